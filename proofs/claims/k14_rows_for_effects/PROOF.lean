import PyProof.Rows.All
import Wide.All
import OpenK.AllK
import Wide.FinOn
import HandS.ForMost
import HandS.TupMul
import HandS.TupAny
import HandS.SetFor
import HandS.Walk
import HandS.EndBits
import KE.GoesEnum
import PyProof.ReprRoads
import HandS.Zip
import HandS.NoneIn
import HandS.SortRule
import HandS.NamedTupSort
import HandS.TupLe
import KE.KSortTup
import HandS.Strs
import PyProof.ListNew
import PyProof.Rows.CountFlat
import HandS.More
import HandS.IsInst
import HandS.Conv
import HandS.DictComp
import KE.DataMinMax
import HandS.Star
import KE.SortData
import HandS.CallLocal
import KE.KDictDisplayH
import HandS.Style
import HandS.Dict
import HandS.ListItems
import KE.KExcIs
import HandS.Exc
import HandS.ExcIs
import HandS.ExcInit
import HandS.ExcField
import HandS.ExcOwn
import HandS.WordsExc
import HandS.RaiseMore
import PyProof.EqKinds
import PyProof.Dict
import PyProof.FactsAll.dict
import PyProof.FactsAll.subtypes
import KE.KDictSum
import HandS.Deep
import HandS.FStr
import PyProof.StrLaws
import PyProof.StrLawsRepr
import HandS.Text
import PyProof.ReprReads
import PySem.Challenge.RW_pressrelease_k14_rows_for_effects
set_option Elab.async false
set_option linter.all false
set_option maxRecDepth 100000
set_option maxHeartbeats 4000000
set_option genInjectivity false
set_option genSizeOfSpec false
/-! A layer for laws that ask repr: a def's promise that also knows that no repr is under way. -/
namespace Pr
open PySem PySem.Spec PyProof.Rows L2

/-! ### promises of defs that may ask repr -/
structure FnG (P : Program) (w : World) (K : PySem.W.Frag) (mg : Str → Option Value) (base : Heap) (k : Nat) (f : Addr) (fd : FuncData) (ps : List Str) (sp : Sp) : Prop where
  len : ∀ vs H Q E, sp vs H Q E → vs.length = ps.length
  go : ∀ (A : Around) (outer : List Env) (s : Shared) (H : Hp) (args : Args) (us : List Value) (vs : List V) (Q : VK) (E : XK), A.guards = some [] → Room k A →
    Env0 P w K mg base A outer s H → BindsTo s fd args (ps.zip us) → Vals vs us → sp vs H Q E →
    codeAny (model P w) A (.call (.ref f) args) (CR CX0 outer P w H s Q E) s

section
variable {P : Program} {w : World} {K : PySem.W.Frag} {mg : Str → Option Value} {base : Heap}
theorem FnG.of {k : Nat} {f : Addr} {fd : FuncData} {ps : List Str} {sp : Sp} (F : FnOk P w K mg base CX0 k f fd ps sp) : FnG P w K mg base k f fd ps sp :=
  ⟨F.len, fun A outer s H args us vs Q E _ hr => F.run A outer s H args us vs Q E hr⟩

/-- a def by its body, where no repr is under way -/
theorem okG {x qual : Str} {st : Stmt} {f : Addr} {fd : FuncData} {N ps : List Str} {k : Nat} {sp : Sp} (F : Fun K x qual st f fd) (S : FnScope N ps (defScope st))
    (len : ∀ vs H Q E, sp vs H Q E → vs.length = ps.length)
    (body : ∀ (cdv : Value) (A : Around) (outer : List Env) (s : Shared) (H : Hp) (vs : List V) (Q : VK) (E : XK), A.guards = some [] →
      Room k (A.deeper (envOfC qual (defScope st) s.heap.objs.size f cdv)) → sp vs H Q E →
      ∃ t, PSs (cxOf CX0 P w K mg base N qual (defScope st) f cdv A outer s H E).nox (defBody st) t ∧ t { nx := fun _ H' => Q .non H', rt := Q } (start N vs) H) :
    FnG P w K mg base (k + 1) f fd ps sp := by
  obtain ⟨oc, od, kV, doc, pm, an, cdv, ct, osl, rfl, lk, hcd⟩ := F.ex
  refine ⟨len, fun A outer s H args us vs Q E hg hr e0 hb r hsp => ?_⟩
  have hin : K.In s.heap := e0.mod.kin.keeps fun b o e => (e0.bs b o e).1
  have hlm : s.heap.NoLimit := e0.mod.nolimit.keeps fun b o e => (e0.bs b o e).1
  refine codeAny_call_function hr.depth (hin _ _ lk) rfl S.co S.gen rfl (PySem.W.codeRec_of hin hcd) (hb _ _ _ _ ?_)
  refine wpAny_newFunctionEnv_cells S.kind (fun ⟨n, v⟩ hy => ?_) fun env he s1 x => ?_
  · rcases S.par n (List.of_mem_zip hy).1 with q | q
    · exact .inl q
    · exact .inr ⟨q, PySem.W.cellsFrom_some _ _ _ (.inl q)⟩
  · subst he
    refine ⟨hlm.keeps x.toInCall.keep, codeAny_func ?_⟩
    obtain ⟨t, ht, hq⟩ := body cdv A outer s H vs Q E hg (hr.deeper _) hsp
    have I := inv_start (CX := CX0) (E := E) S hr.hd e0 (len _ _ _ _ hsp) r x
    refine wpAny_mono (ht.nox.run [] s1 (start N vs) H _ I hq) (fun fl s' hs => ?_) fun e s' hs => hs
    cases fl with
    | ret u => obtain ⟨v, σ', H', J, rv, q⟩ := hs; exact ⟨v, H', J.os, J.bare, J.base, J.hok, rv, q⟩
    | next => obtain ⟨σ', H', J, q⟩ := hs; exact ⟨V.non, H', J.os, J.bare, J.base, J.hok, rfl, q⟩
    | brk => obtain ⟨_, _, _, q⟩ := hs; exact q.elim
    | cont => obtain ⟨_, _, _, q⟩ := hs; exact q.elim
end

section
variable {X : Cx} {k : Nat} {f : Addr} {fd : FuncData} {ps : List Str} {sp : Sp} {x : Str} {p pos : Pos} {e : Expr} {es : List Expr} {t : TA}
/-- f(e, ..) of such a def -/
theorem pe_callG (F : FnG X.prog X.w X.K X.mg X.base k f fd ps sp) (gd : X.A.guards = some []) (hr : Room k X.A) (hg : Gl X x) (hm : X.mg x = some (.ref f)) (hk : PySem.W.keepIn X.K (.ref f) = true) (hb : Binds X.K fd ps [])
    (ha : PA X (e :: es) t) (hdb : (x == ("__debug__" : Str)) = false := by decide) (he : starEach (e :: es) X.env = (false, eval e X.env) :: starEach es X.env := by rfl)
    (hpl : (backTo pos (starEach es X.env)).any (·.1) = false := by rfl) : PE X (.Call (.Name x p) (e :: es) [] pos) (tCall sp [] E0 t) := by
  refine ⟨fun pins s σ H Q I h => wpAny_Call_Name_kw (ld_glob I hg hm ?_ hdb)⟩
  refine PySem.W.callWith_K (h₀ := X.base) I.ok.mod.kin hk (thn (ha.run pos pins s σ H _ I h) fun us s1 ⟨vs, H1, I1, r, q⟩ => ⟨I1.kIn, ?_⟩) he hpl
  have q1 : sp vs H1 Q E0 := by
    have q0 : sp (vs ++ []) H1 Q E0 := q
    rwa [List.append_nil] at q0
  have hl : us.length = ps.length := by rw [← r.length]; exact F.len _ _ _ _ q1
  have hb1 : BindsTo s1 fd ⟨us, []⟩ (ps.zip us) := by
    have := hb s1 us I1.kIn (by rw [List.append_nil]; exact hl)
    rwa [List.append_nil] at this
  refine wpAny_call (codeAny_mono (F.go X.A X.stack s1 H1 ⟨us, []⟩ us vs Q E0 gd hr I1.env0 hb1 r q1) fun r' s' hq => ?_)
  cases r' with
  | error e' => exact hq.elim
  | ok fl =>
    cases fl with
    | ret u => exact I1.after hq
    | next => exact hq.elim
    | brk => exact hq.elim
    | cont => exact hq.elim
end

/-! ### repr of data that holds no dict -/
def rRepr (K : PySem.W.Frag) : List V → Hp → VK → Prop := fun xs H Q => ∃ (a : Addr) (d : PyData), xs = [.ref a] ∧ Dp K H (.ref a) d ∧ d.showable = true ∧ d.hasDict = false ∧ d.depth ≤ 60 ∧ d.shown.length ≤ sizeLine ∧ Q (.str d.shown) H
theorem call_repr {X : Cx} {k : Nat} (gd : X.A.guards = some []) (hr : Room k X.A) : CallR X (.builtin "repr") (rRepr X.K) := by
  intro pins s σ H xs us Q I rv h
  obtain ⟨a, d, rfl, hd, hs, hn, hdep, hz, q⟩ := h
  obtain ⟨u, rfl, rx⟩ := vals1 rv
  cases rx
  obtain ⟨as, r⟩ := Dp.reads I d _ _ hd rfl
  exact repr_of_reads' r hs (PyData.noDict_hsm hn) gd (by have := hr.un; omega) (fun _ _ e => e) (fun h' t tk hk => ⟨.str d.shown, H, I.kept hk, ⟨t, rfl⟩, q⟩) hz

/-! ### the law's own call -/
theorem lawG {P : Program} {w : World} {K : PySem.W.Frag} {mg mb : Str → Option Value} {k : Nat} {fa a : Addr} {fd : FuncData} {x : Str} {sp : Sp} {s1 : Shared} {vs : List Value} {ns : List Int}
    (kin : K.In s1.heap) (nsg : s1.heap.Ns mainGlobals mg) (nsb : s1.heap.Ns builtinsNs mb) (bb : ∀ y : Str, y ≠ "__name__" → mb y = bootBuiltins y) (lim : s1.heap.NoLimit) (g0 : s1.gens = #[])
    (la : s1.heap.get? a = some { cls := .type "list", data := .seq vs.toArray }) (hints : IntsAre vs ns) (few : ns.length ≤ sizeLine) (rm : Room k callerA)
    (F : ∀ base : Heap, K.In base → base.Ns mainGlobals mg → FnG P w K mg base k fa fd [x] sp) (bd : ∀ (s : Shared) (u : Value), BindsTo s fd ⟨[u], []⟩ [(x, u)])
    (wish : ∀ H : Hp, Only H → SqL K H a (ns.map V.int) → sp [.ref a] H (fun v _ => v = .bl true) E0) :
    codeAny (model P w) callerA (.call (.ref fa) ⟨[.ref a], []⟩) (fun r s' => r = .ok (.ret (.bool true)) ∧ OldK s1.heap s'.heap ∧ s'.os = s1.os ∧ AllBare s'.gens) s1 := by
  have rv := vals_ints hints
  have lv := hints.length
  have main : ∀ H : Hp, Only H → SqL K H a (ns.map V.int) → HOk P w H s1.heap → (∀ b, H b ≠ none → b = a) → (H a ≠ none → K.lookup a = none) →
      codeAny (model P w) callerA (.call (.ref fa) ⟨[.ref a], []⟩) (fun r s' => r = .ok (.ret (.bool true)) ∧ OldK s1.heap s'.heap ∧ s'.os = s1.os ∧ AllBare s'.gens) s1 := by
    intro H hO hS hok hA hK
    have out : ∀ {b : Addr} {o : Obj} {es : Array DictEntry} {ep : Nat}, s1.heap.get? b = some o → o.data = .dict es ep → H b = none := fun {b o es ep} e d => by
      cases q : H b with
      | none => rfl
      | some u =>
        obtain rfl : b = a := hA b (by rw [q]; simp)
        rw [la] at e; cases e
        exact nomatch (show Data.seq vs.toArray _ = Data.dict es ep from d)
    have nsH : ∀ {b : Addr} {m : Str → Option Value}, s1.heap.Ns b m → (hidT s1.heap H).Ns b m := fun {b m} ⟨o, es, ep, e, d, r⟩ => ⟨o, es, ep, hidT_get e (out e d), d, r⟩
    have kinH : K.In (hidT s1.heap H) := fun b o e => hidT_get (kin b o e) (by
      cases q : H b with
      | none => rfl
      | some u =>
        obtain rfl : b = a := hA b (by rw [q]; simp)
        rw [hK (by rw [q]; simp)] at e; cases e)
    have md : Mod K mg (hidT s1.heap H) := ⟨kinH, nsH nsg, ⟨mb, nsH nsb, bb⟩, let ⟨mc, h1, h2⟩ := lim; ⟨mc, nsH h1, h2⟩⟩
    have e0 : Env0 P w K mg (hidT s1.heap H) callerA [] s1 H :=
      ⟨rfl, md, fun b o e => of_hidT e, Nat.le_of_eq (hidT_size _ _), trivial, fun b hb => absurd (show b ∈ ([] : List Addr) from hb) (by simp), hok, .of_eq g0⟩
    refine codeAny_mono ((F _ kinH (nsH nsg)).go callerA [] s1 H ⟨[.ref a], []⟩ [.ref a] [.ref a] _ _ rfl rm e0 (bd s1 (.ref a)) (.cons rfl .nil) (wish H hO hS)) fun r s' h => ?_
    cases r with
    | error e => exact h.elim
    | ok fl =>
      cases fl with
      | next => exact h.elim
      | brk => exact h.elim
      | cont => exact h.elim
      | ret u =>
        obtain ⟨v, H', os, bare, un, hok', r', q⟩ := h
        obtain rfl : v = .bl true := q
        obtain rfl : u = Value.bool true := r'
        refine ⟨rfl, OldK.of_keep fun b o e => ?_, os, bare⟩
        rcases hO b with z | ⟨ob, xs, z⟩
        · exact un.keep b o e z (fun y => absurd (show b ∈ ([] : List Addr) from y) (by simp)) (by simp)
        · have e1 := (hok b _ z).1
          rw [e] at e1; cases e1
          exact (hok' b _ (un.frzs b o _ z)).1
  cases hk : K.lookup a with
  | some o =>
    have e := kin a o hk
    rw [la] at e
    cases e
    exact main (fun _ => none) (fun _ => .inl rfl) (.inr ⟨_, vs.toArray, _, hk, rfl, rfl, rfl, by rw [List.size_toArray, lv]; exact few, by simpa using rv⟩)
      (fun b u z => nomatch (show (none : Option HO) = some u from z)) (fun b z => absurd rfl z) fun z => absurd rfl z
  | none =>
    refine main (upd (fun _ => none) a (.frz { cls := .type "list", data := .seq vs.toArray } (.lst (ns.map V.int)))) (fun b => ?_) (.inl (.inr ⟨_, upd_same⟩)) (fun b u z => ?_) (fun b z => ?_) fun _ => hk
    · by_cases hb : b = a
      · subst hb; exact .inr ⟨_, _, upd_same⟩
      · exact .inl (upd_ne hb)
    · by_cases hb : b = a
      · subst hb
        rw [upd_same] at z
        cases z
        exact ⟨la, by rw [List.length_map]; exact few, vs, _, rv, la⟩
      · rw [upd_ne hb] at z; cases z
    · by_cases hb : b = a
      · exact hb
      · exact absurd (upd_ne hb) z

/-- the goal that k_head leaves, from the law's promise -/
theorem walkG {l : PySem.W.OpenLaw} {n k : Nat} {q : Program} {loose : List Str} {XP : (Str → Option Value) → Heap → Prop} {YP : World → Heap → Prop} {d : DefRec} {K : Params → PySem.W.Frag} {sp : PySem.W.Frag → Sp} {x : Str}
    (hn : l.most = some n) (hn2 : n ≤ sizeLine) (hdf : d.params.defaults = []) (hr : Room k callerA) (hY : ∀ (w : World) (h : Heap), YP w h → (K w.params).In h)
    (F : ∀ (w : World) (mg : Str → Option Value) (fa : Addr) (h : Heap), (K w.params).In h → h.Ns mainGlobals mg → mg d.name = some (.ref fa) →
      ∃ fd : FuncData, (∀ (s : Shared) (u : Value), BindsTo s fd ⟨[u], []⟩ [(x, u)]) ∧ ∀ base : Heap, (K w.params).In base → base.Ns mainGlobals mg → FnG l.prog w (K w.params) mg base k fa fd [x] (sp (K w.params)))
    (hsp : ∀ (K : PySem.W.Frag) (H : Hp) (a : Addr) (ns : List Int), ns.length ≤ n → (∀ z ∈ ns, Builtin.Int.intBits z ≤ 1048576) → Only H → SqL K H a (ns.map V.int) → sp K [.ref a] H (fun v _ => v = .bl true) E0) :
    PySem.W.WalkO q loose XP YP l.row.toRowW d [] (fun f vs => PySem.call f vs) := by
  refine Att.attach_callB hn hdf fun w s0 s1 mg mb fa o pm cd doc a vs ns G Y ho hd hcd hmg hobj hints hlen hbits hg => ?_
  obtain ⟨fd, hb, hF⟩ := F w mg fa _ (hY w _ Y) G.T.g hmg
  exact lawG (hY w _ Y) G.T.g G.T.b G.T.builtins G.T.nolimit hg hobj hints (Nat.le_trans hlen hn2) hr hF hb fun H hO hS => hsp (K w.params) H a ns hlen hbits hO hS
end Pr
namespace Pr
open PySem PySem.Spec PyProof.Rows L2

/-- a tuple of which it is known that it has no attributes of its own -/
def FT (H : Hp) (a : Addr) (xs : List V) : Prop := ∃ o : Obj, H a = some (.frz o (.tup xs)) ∧ o.dict = none
theorem FT.sq {K : PySem.W.Frag} {H : Hp} {a : Addr} {xs : List V} (h : FT H a xs) : SqT K H a xs := let ⟨o, e, _⟩ := h; .inl (.inr ⟨o, e⟩)
theorem FT.same {H H' : Hp} {a : Addr} {xs : List V} (e : Same H H') (h : FT H a xs) : FT H' a xs := let ⟨o, q, z⟩ := h; ⟨o, e _ _ q, z⟩
theorem same_sqT {K : PySem.W.Frag} {H H' : Hp} {a : Addr} {xs : List V} (e : Same H H') (h : SqT K H a xs) : SqT K H' a xs := by
  rcases h with (h | ⟨o, h⟩) | h
  · exact .inl (.inl (e _ _ h))
  · exact .inl (.inr ⟨o, e _ _ h⟩)
  · exact .inr h

section
variable {X : Cx}
/-! ### tuple(list), the tuple known -/
def rTupF (K : PySem.W.Frag) : List V → Hp → VK → Prop := fun xs H Q => ∃ p ys, xs = [.ref p] ∧ SqL K H p ys ∧ ∀ l o, H l = none → o.dict = none → Q (.ref l) (upd H l (.frz o (.tup ys)))
theorem call_tupF : CallR X (.type "tuple") (rTupF X.K) := by
  intro pins s σ H xs us Q I r h
  obtain ⟨p, ys, rfl, hq, q⟩ := h
  obtain ⟨u, rfl, rx⟩ := vals1 r
  cases rx
  obtain ⟨its, r', pl, hz⟩ := I.list hq
  have hlen := r'.length
  refine call_tuple_list pl.isList (fun h' kp => ?_) (by simp only [List.size_toArray] <;> omega)
  have I1 : Inv X pins σ H { s with heap := h' } := I.kept (t' := s.toks) kp
  have I2 := I1.laid (t' := s.toks) (h' := h'.push { cls := .type "tuple", data := .seq its.toArray }) (a := h'.objs.size)
    (o := .frz { cls := .type "tuple", data := .seq its.toArray } (.tup ys)) (fun b o e => Heap.get?_push_of_some _ e) (Nat.le_refl _) ⟨Heap.get?_push_size _ rfl, hz, its, r', IsTup.new _ _⟩
  exact ⟨.ref h'.objs.size, _, I2, rfl, q _ _ (I1.hok.fresh (Nat.le_refl _)) rfl⟩

/-! ### t.count(k) -/
def rCntT (K : PySem.W.Frag) : V → List V → Hp → VK → Prop := fun x xs H Q => ∃ (p : Addr) (ns : List Int) (k : Int), x = .ref p ∧ xs = [.int k] ∧ SqT K H p (ns.map V.int) ∧ Q (.int (ns.count k : Nat)) H
theorem mt_tcount : MtR X "tuple.count" (rCntT X.K) := by
  intro pins s σ H x xs v us Q I rx rxs h
  obtain ⟨p, ns, k, rfl, rfl, hs, q⟩ := h
  cases rx
  obtain ⟨u, rfl, t, rfl⟩ := rxs.one
  obtain ⟨its, rv, ⟨⟨cls, dd, data, sl⟩, ho, hc, n, hd⟩, hlen⟩ := I.tuple hs
  simp only at hc hd
  subst hc hd
  have hi := ints_of_vals rv
  refine call_meets PySem.F.slot_tuple_count ⟨_, ho, rfl⟩ PySem.F.entry_tuple_count (PySem.F.args_tuple_count_2 _ _)
    (SeqAt.tuple_countAt p its.toArray n dd sl (.int k t) (eqk k)) ⟨ho, fun y hy => (eqk_gives hi y (by simpa using hy)).at _ _, ?_⟩
  have ec : its.toArray.toList.countP (eqk k) = ns.count k := eqk_count hi
  rw [ec]
  exact ⟨.int (ns.count k : Nat), H, I.tok _, ⟨s.toks, rfl⟩, q⟩

/-- o.m(e, ..), o a tuple that is known -/
def tTM (r : V → List V → Hp → VK → Prop) (to : TE) (t : TA) : TE := fun σ H Q => to σ H fun x H1 => (∃ p xs, x = .ref p ∧ FT H1 p xs) ∧ t σ H1 fun vs H2 => r x vs H2 Q
theorem pe_tm {name : Str} {id : String} {r : V → List V → Hp → VK → Prop} {o e : Expr} {es : List Expr} {apos cpos : Pos} {to : TE} {t : TA} (slot : Slot "tuple" name id) (hty : typeOf (.builtin id) = pure (.type "method_descriptor")) (hm : MtR X id r) (ho : PE X o to) (ha : PA X (e :: es) t)
    (hbase : attributeBase o name X.env (eval o X.env) = eval o X.env := by rfl)
    (hfew : ((backTo cpos (starEach (e :: es) X.env)).all (fun x => !x.1) && (backToKw cpos (keywordEach [] X.env)).all (fun x => x.1.isSome) && decide ((e :: es).length + ([] : List Keyword).length + (if ([] : List Keyword).isEmpty then 0 else 1) < 30)) = true := by rfl)
    (hline : (apos.endLine == cpos.line) = true := by rfl) (hs : starEach (e :: es) X.env = (false, eval e X.env) :: starEach es X.env := by rfl)
    (hplain : (backTo cpos (starEach es X.env)).any (·.1) = false := by rfl) : PE X (.Call (.Attribute o name apos) (e :: es) [] cpos) (tTM r to t) := by
  refine ⟨fun pins s σ H Q I h => wpAny_Call_method_late hbase hfew hline rfl (thn (ho.run pins s σ H _ I h) fun v s1 ⟨x, H1, I1, r1, ⟨p, xs, ex, ob, hp, hdn⟩, q1⟩ => ?_)⟩
  subst ex
  cases r1
  obtain ⟨g1, _, its, _, ⟨o2, g2, hc, _⟩⟩ := I1.hok p _ hp
  rw [g1] at g2
  cases g2
  refine ⟨"tuple", id, PySem.F.plainAttrs_tuple, slot, hty, ⟨ob, g1, hc⟩, fun a e => by cases e; exact ⟨ob, g1, hdn⟩, ?_⟩
  have hA := ha.run cpos pins s1 σ H1 _ I1 q1
  rw [hs] at hA ⊢
  refine Calls.callWith_builtin (by show (false || (backTo cpos (starEach es X.env)).any (·.1)) = false; rw [hplain] <;> rfl) (Calls.evalArgs_plain ?_)
  exact thn hA fun us s2 ⟨vs, H2, I2, r2, q2⟩ => hm pins s2 σ H2 (.ref p) vs (.ref p) us Q I2 rfl r2 q2
end

/-! ### (x,) * 0 and (x,) * 1 -/
theorem tup_mul0 (l : Addr) (y : Value) (n : Nat) (dd : Option Addr) (sl : Array (Option Value)) (u : Tok) :
    Meets (Builtin.«tuple.__mul__» ⟨[.ref l, .int 0 u], []⟩) (fun _ R s => s.heap.get? l = some { cls := .type "tuple", dict := dd, data := .seq #[y] n, slots := sl } ∧
      R (.ok (.ret (Value.ref s.heap.objs.size))) { s with heap := s.heap.push { cls := Value.type "tuple", data := Data.seq #[] }, toks := s.toks }) :=
  .of_wp fun prog w A R s h => by
    obtain ⟨hp, g, d, tk, os⟩ := s
    obtain ⟨hl, h⟩ := h
    have f1 := AutoSeq1.idx_int
    wp_walk using AutoSeq1.wpAny_loadPart' hl
    exact ⟨_, rfl, h⟩
theorem tup_mul1 (l : Addr) (y : Value) (n : Nat) (dd : Option Addr) (sl : Array (Option Value)) (u : Tok) :
    Meets (Builtin.«tuple.__mul__» ⟨[.ref l, .int 1 u], []⟩) (fun _ R s => s.heap.get? l = some { cls := .type "tuple", dict := dd, data := .seq #[y] n, slots := sl } ∧ R (.ok (.ret (.ref l))) s) :=
  .of_wp fun prog w A R s h => by
    obtain ⟨hp, g, d, tk, os⟩ := s
    obtain ⟨hl, h⟩ := h
    have f1 := AutoSeq1.idx_int
    wp_walk using AutoSeq1.wpAny_loadPart' hl
    exact ⟨_, rfl, h⟩
section
variable {X : Cx}
def rRep1 (K : PySem.W.Frag) : R2 := fun x y H Q => ∃ l v, x = .ref l ∧ SqT K H l [v] ∧ ((y = .int 1 ∧ Q (.ref l) H) ∨ (y = .int 0 ∧ ∀ p, H p = none → Q (.ref p) (upd H p (.tup []))))
theorem op_rep1 : OpR X (binaryOp .Mult) (rRep1 X.K) := by
  intro pins s σ H x y v u Q I rx ry h
  obtain ⟨l, z, rfl, hT, h⟩ := h
  cases rx
  obtain ⟨its, r, ⟨⟨cls, dd, data, sl⟩, ho, hc, n, hd⟩, hs⟩ := I.tuple hT
  simp only at hc hd
  subst hc hd
  obtain ⟨a, rfl, ra⟩ := vals1 r
  rcases h with ⟨rfl, q⟩ | ⟨rfl, q⟩
  · obtain ⟨t, rfl⟩ := ry
    refine wpAny_binaryOp_repeat_ref (T := "tuple") (U := "int") (by decide) ⟨_, ho, rfl⟩ (fun s' => typeIs_int s' 1 t) noFill_tuple_mul F.fills_int_mul F.slot_int_rmul repeat_tuple F.slot_int_index.lookup
      (call_meets F.slot_int_rmul (typeIs_int s 1 t) F.entry_int_rmul (F.args_int_rmul_2 _ _) (int_rmul_tuple 1 t l #[a] n dd sl)
        ⟨ho, rfl, ⟨_, ho, rfl⟩, call_meets F.slot_tuple_mul ⟨_, ho, rfl⟩ F.entry_tuple_mul (F.args_tuple_mul_2 _ _) (tup_mul1 l a n dd sl t) ⟨ho, ?_⟩⟩)
    exact ⟨.ref l, H, I, rfl, q⟩
  · obtain ⟨t, rfl⟩ := ry
    refine wpAny_binaryOp_repeat_ref (T := "tuple") (U := "int") (by decide) ⟨_, ho, rfl⟩ (fun s' => typeIs_int s' 0 t) noFill_tuple_mul F.fills_int_mul F.slot_int_rmul repeat_tuple F.slot_int_index.lookup
      (call_meets F.slot_int_rmul (typeIs_int s 0 t) F.entry_int_rmul (F.args_int_rmul_2 _ _) (int_rmul_tuple 0 t l #[a] n dd sl)
        ⟨ho, rfl, ⟨_, ho, rfl⟩, call_meets F.slot_tuple_mul ⟨_, ho, rfl⟩ F.entry_tuple_mul (F.args_tuple_mul_2 _ _) (tup_mul0 l a n dd sl t) ⟨ho, ?_⟩⟩)
    refine ⟨.ref s.heap.objs.size, _, I.laid (t' := s.toks) (o := .tup []) (fun b ob q => Heap.get?_push_of_some _ q) (Nat.le_refl _) ?_, rfl, q _ (I.hok.fresh (Nat.le_refl _))⟩
    exact ⟨Nat.zero_le _, [], .nil, IsTup.new _ _⟩
end

/-! ### enumerate(tuple) -/
theorem enum_newT (l : Addr) (items : Array Value) (n : Nat) (dct : Option Addr) (sl : Array (Option Value)) :
    Meets (Builtin.«enumerate.__new__» ⟨[.type "enumerate", .ref l], []⟩) (fun _ R s => s.heap.get? l = some { cls := .type "tuple", dict := dct, data := .seq items n, slots := sl } ∧
      R (.ok (.ret (.ref (s.heap.push { cls := .type "tuple_iterator", data := .fields #[.ref l, .int 0 0] }).objs.size)))
        { s with heap := (s.heap.push { cls := .type "tuple_iterator", data := .fields #[.ref l, .int 0 0] }).push { cls := .type "enumerate", data := .fields #[.none, .bool false, .ref s.heap.objs.size, rawInt 0, .none, .none] } }) :=
  .of_wp fun prog w A R s h => by
    obtain ⟨hp, g, d, tk, os⟩ := s; obtain ⟨hl, h⟩ := h
    have hsub := sub_enumerate
    have hL : Heap.IsTuple (Shared.heap ⟨hp, g, d, tk, os⟩) l items := ⟨_, hl, rfl, n, rfl⟩
    wp_walk using AutoSeq1.wpAny_loadPart' hl
    refine wpAny_stack_any fun st => wpAny_pure ?_
    split
    · rename_i c _ _ _ _ _
      cases (c == Value.type "enumerate") <;> (wp_walk using AutoSeq1.wpAny_loadPart' hl, wpAny_pyIter_tuple hL; exact ⟨_, rfl, h⟩)
    · wp_walk using AutoSeq1.wpAny_loadPart' hl, wpAny_pyIter_tuple hL
      exact ⟨_, rfl, h⟩
theorem call_enumT {prog : Program} {w : World} {A : Around} {E : Value → Shared → Prop} {s : Shared} {l : Addr} {items : Array Value} {Q : Value → Shared → Prop} (hL : s.heap.IsTuple l items)
    (h : ∀ h', IsEnum h' (s.heap.objs.size + 1) s.heap.objs.size 0 .none → h'.IsTupleIter s.heap.objs.size l 0 → h'.objs.size = s.heap.objs.size + 2 →
      (∀ b o, s.heap.get? b = some o → h'.get? b = some o) → Q (.ref (s.heap.objs.size + 1)) { s with heap := h' }) :
    wpAny (model prog w) A (call (.type "enumerate") [.ref l]) Q E s := by
  obtain ⟨⟨c, dct, dt, sl⟩, hl, hc, n, hd⟩ := hL
  simp only at hc hd
  subst hc hd
  refine callType_new F.called_enumerate (by decide) (F.typeCall_enumerate_1 _) (F.newCall_enumerate_1 _) (fun obj => F.args_object_init_2 obj _) F.entry_enumerate_new (enum_newT l items n dct sl) ⟨hl, ?_⟩
  generalize ho : ({ cls := .type "tuple_iterator", data := .fields #[.ref l, .int 0 0] } : Obj) = o1
  have f1 : o1.isFreed = false := by rw [← ho]; rfl
  generalize hp : ({ cls := .type "enumerate", data := .fields #[.none, .bool false, .ref s.heap.objs.size, rawInt 0, .none, .none] } : Obj) = o2
  have f2 : o2.isFreed = false := by rw [← hp]; rfl
  have hz : (s.heap.push o1).objs.size = s.heap.objs.size + 1 := Heap.size_push ..
  have hg := Heap.get?_push_size (s.heap.push o1) (o := o2) f2
  show _ ∧ _
  rw [hz] at hg ⊢
  have he : IsEnum ((s.heap.push o1).push o2) (s.heap.objs.size + 1) s.heap.objs.size 0 .none := by rw [hp.symm] at hg ⊢; exact hg
  refine ⟨⟨_, he, rfl⟩, h _ he ⟨_, Heap.get?_push_of_some _ (Heap.get?_push_size _ f1), by rw [← ho], by rw [← ho]; rfl⟩ (by rw [Heap.size_push, hz]) fun b o x => Heap.get?_push_of_some _ (Heap.get?_push_of_some _ x)⟩
/-- the tuple at a, each item in a new pair -/
def Itet (K : PySem.W.Frag) (a : Addr) : It :=
  ⟨fun i H => ∃ (xs : List V) (x : V), SqT K H a xs ∧ xs[i]? = some x, fun i H v H' => ∃ T x, v = .ref T ∧ H T = none ∧ H' = upd H T (.tup [.int (i : Nat), x]) ∧ ∀ xs, SqT K H a xs → xs[i]? = some x,
    fun i H => ∃ xs : List V, SqT K H a xs ∧ xs.length ≤ i⟩
theorem turn_enumT {P : Program} {w : World} {K : PySem.W.Frag} {elts : List Expr} {kk : Nat} {tpos : Pos} (a e it : Addr) :
    Turn P w K (.Tuple elts kk tpos) (Itet K a) [e, it] e (fun i h => (∃ old, IsEnum h e it ((i : Nat) : Int) old) ∧ h.IsTupleIter it a i ∧ e ≠ it) where
  mem := by simp
  obj := fun i h st b hb => by
    obtain ⟨⟨old, he⟩, ⟨o, ho, hc, hd⟩, _⟩ := st
    rcases (show b = e ∨ b = it by simpa using hb) with rfl | rfl
    · exact ⟨_, he, fun v q => nomatch q⟩
    · exact ⟨o, ho, fun v q => by rw [hd] at q; cases q⟩
  keep := fun i h h' st k => let ⟨⟨old, he⟩, hi, hne⟩ := st; ⟨⟨old, k e (by simp) _ he⟩, hi.at fun o q => k it (by simp) o q, hne⟩
  item := by
    intro X hP hw hK hc i pins s σ H E I hf st hg
    subst hP hw hK
    obtain ⟨⟨old, he⟩, hit, hne⟩ := st
    obtain ⟨xs, x, hq, hx⟩ := hg
    obtain ⟨its, rv, pt, hz⟩ := I.tuple hq
    have hT : s.heap.IsTuple a its.toArray := pt
    obtain ⟨u, hu, ru⟩ := rv.get hx
    have hel : e < s.heap.objs.size := Heap.lt_size he
    have hil : it < s.heap.objs.size := by obtain ⟨_, q, _⟩ := hit; exact Heap.lt_size q
    have nai : a ≠ it := fun z => by
      subst z
      obtain ⟨o1, q1, c1, _⟩ := hit
      obtain ⟨o2, q2, c2, _⟩ := hT
      rw [q1] at q2; cases q2
      rw [c1] at c2; exact absurd c2 (by decide)
    have nea : e ≠ a := fun z => by
      subst z
      obtain ⟨o2, q2, c2, _⟩ := hT
      have he' : s.heap.get? e = _ := he
      rw [he'] at q2; cases q2
      exact absurd (show Value.type "enumerate" = Value.type "tuple" from c2) (by decide)
    have hi : i < its.toArray.size := by
      have := (List.getElem?_eq_some_iff.mp hu).1
      simpa using this
    refine wpAny_pyNext_enum_itemD (Draws.tuple (A := X.A.in1) (I.ok.hd hc) it a nai its.toArray) he ⟨hit, hT⟩ hi hne (by simp [hne, nea]) fun y h' tk hy ho hit' hT' hsz hk => ?_
    obtain rfl : y = u := by
      have hy' : its.toArray[i]? = some y := hy
      rw [List.getElem?_toArray, hu] at hy'
      exact (Option.some.inj hy').symm
    refine ⟨_, rfl, wpAny_letOwnedTupleGo_enum (s := { s with heap := h', toks := tk + 1 }) ho fun h'' he' sb => ?_⟩
    have hT2 : h''.get? s.heap.objs.size = some { cls := .type "tuple", data := .seq #[.int i tk, y] } := (sb.2 _ (Nat.ne_of_gt hel)).trans hT'
    have new : ObjOk X.prog X.w (upd H s.heap.objs.size (.tup [.int (i : Nat), x])) h'' s.heap.objs.size (.tup [.int (i : Nat), x]) :=
      ⟨by show 2 ≤ sizeLine; decide, [.int i tk, y], .cons ⟨_, rfl⟩ (.cons ru .nil), ⟨_, hT2, rfl, _, rfl⟩⟩
    have I1 := I.turnedNew (t' := tk + 1) (ch := [e, it]) (fun b ob hb q => (sb.2 b (fun z => hb (by simp [z]))).trans (hk b ob (fun z => hb (by simp [z])) (fun z => hb (by simp [z])) q)) hf (Nat.le_refl _) new
    refine ⟨.ref s.heap.objs.size, _, I1, rfl, ⟨_, x, rfl, I.hok.fresh (Nat.le_refl _), rfl, fun ys hys => by rw [I.tuple_inj hys hq]; exact hx⟩, ⟨⟨y, ?_⟩, hit'.1.at fun o q => (sb.2 it (Ne.symm hne)).trans q, hne⟩, fun b hb => ?_⟩
    · rw [show ((i + 1 : Nat) : Int) = (i : Int) + 1 by omega]; exact he'
    · have hb' : b < s.heap.objs.size := by
        rcases (show b = e ∨ b = it by simpa using hb) with rfl | rfl
        · exact hel
        · exact hil
      rw [upd_ne (Nat.ne_of_lt hb')]
      exact (hf b hb).1
  done := by
    intro X hP hw hK hc i pins s σ H E I hf st hg
    subst hP hw hK
    obtain ⟨⟨old, he⟩, hit, hne⟩ := st
    obtain ⟨xs, hq, hx⟩ := hg
    obtain ⟨its, rv, pt, hz⟩ := I.tuple hq
    have hT : s.heap.IsTuple a its.toArray := pt
    obtain ⟨f0, f1, f2, f3, f4, f5⟩ := hf it (by simp)
    have hl := rv.length
    have hT : s.TypeIs (.ref e) "enumerate" := ⟨_, he, rfl⟩
    unfold pyNext
    refine wpAny_bind (wpAny_attempt (wpAny_callSpecial?_slot (name := Str.ofString "__next__") hT F.slot_enumerate_next (wpAny_call_entry F.slot_enumerate_next hT F.entry_enumerate_next ?_ (F.args_enumerate_next_1 _))))
    show wpAny _ _ (field (.ref e) 2 >>= _) _ _ _
    refine wpAny_bind (wpAny_field he rfl (x := .ref it) rfl ?_)
    refine wpAny_bind (wpAny_nextOf_tuple_end (I.ok.hd hc) hit pt (by simp; omega) fun h' x eb hx' => ?_)
    obtain ⟨o, ho, hcx⟩ := hx'
    refine wpAny_bind (wpAny_isInstance (T := "StopIteration") (b := true) ⟨o, ho, hcx⟩ isSubtype_stop ?_)
    exact wpAny_pure ⟨rfl, I.turned (t' := s.toks) (fun b o hb q => eb b o hb q) f0 f1 f3 f4 f5⟩
  self := fun A i s Q E st h => let ⟨⟨_, he⟩, _⟩ := st; wpAny_pyIter_enum he h
def iEnumT (K : PySem.W.Frag) (ta : TA) : TI := fun σ H R => ta σ H fun vs H1 => ∃ a xs, vs = [.ref a] ∧ SqT K H1 a xs ∧ R (Itet K a) H1
theorem pi_enumT {X : Cx} {e : Expr} {ta : TA} {p pos tpos : Pos} {elts : List Expr} {kk : Nat} (hg : Gl X "enumerate") (hm : X.mg "enumerate" = none) (ha : PA X [e] ta)
    (hs : starEach [e] X.env = [(false, eval e X.env)] := by rfl) : PI X (.Tuple elts kk tpos) (.Call (.Name "enumerate" p) [e] [] pos) (iEnumT X.K ta) := by
  refine ⟨fun pins s σ H R I h => Call_ (ld_blt I hg hm boot_enumerate (PyProof.Rows.callWith_type1 (thn (ha.run pos pins s σ H _ I h) fun us s1 ⟨vs, H1, I1, r1, a, xs, ex, hq, q⟩ => ?_) hs rfl))⟩
  subst ex
  obtain ⟨u, rfl, rx⟩ := vals1 r1
  cases rx
  obtain ⟨its, rv, pt, hz⟩ := I1.tuple hq
  refine call_enumT pt fun h' he hit hsz hk => wpAny_pyIter_enum he ?_
  refine ⟨s1.heap.objs.size + 1, [s1.heap.objs.size + 1, s1.heap.objs.size], _, _, H1, rfl, I1.kept (t' := s1.toks) hk, turn_enumT a (s1.heap.objs.size + 1) s1.heap.objs.size, ⟨⟨.none, he⟩, hit, Nat.succ_ne_self _⟩, fun b hb => ?_, q⟩
  have hle : s1.heap.objs.size ≤ b := by
    rcases (show b = s1.heap.objs.size + 1 ∨ b = s1.heap.objs.size by simpa using hb) with rfl | rfl
    · exact Nat.le_add_right _ _
    · exact Nat.le_refl _
  exact I1.fpOk hle (I1.hok.fresh hle)
theorem walk_enumT {K : PySem.W.Frag} {a : Addr} {xs : List V} : Walk (Itet K a) xs.length (fun H => SqT K H a xs) (YPair (fun i => some (.int (i : Nat))) (fun i => xs[i]?)) := by
  refine ⟨fun i _ hi q => ⟨xs, xs[i], q, by simp [hi]⟩, fun _ q => ⟨xs, q, Nat.le_refl _⟩, fun i H v H' _ q y => ?_⟩
  obtain ⟨T, x, h1, h2, h3, h4⟩ := y
  exact ⟨T, .int (i : Nat), x, h1, h2, h3, rfl, h4 xs q⟩
end Pr
namespace Pr
open PySem PySem.Spec PyProof.Rows L2
/-! ### data that repr can show: how deep, how long -/
structure Shw (dep n : Nat) (d : PyData) : Prop where
  sh : d.showable = true
  nd : d.hasDict = false
  dp : d.depth ≤ dep
  ln : d.shown.length ≤ n
theorem Shw.mono {dep dep' n n' : Nat} {d : PyData} (h : Shw dep n d) (h1 : dep ≤ dep') (h2 : n ≤ n') : Shw dep' n' d := ⟨h.sh, h.nd, Nat.le_trans h.dp h1, Nat.le_trans h.ln h2⟩
theorem Shw.int {i : Int} {k : Nat} (h0 : 0 ≤ i) (hk : 0 < k) (hk2 : k ≤ 100) (h : i < 10 ^ k) : Shw 0 k (.int i) := by
  refine ⟨?_, by simp only [PyData.hasDict], by simp [PyData.depth], ?_⟩
  · simp only [PyData.showable, decide_eq_true_eq]
    by_cases hz : i.natAbs = 0
    · rw [hz]; decide
    · refine (Nat.log2_lt hz).mpr ?_
      have h1 : (i.natAbs : Int) < ((10 ^ k : Nat) : Int) := by
        rw [Int.natCast_pow]
        have : ((i.natAbs : Nat) : Int) = i := Int.natAbs_of_nonneg h0
        rw [this]; exact h
      have h2 : i.natAbs < 10 ^ k := by exact_mod_cast h1
      have h3 : (10 : Nat) ^ k ≤ 10 ^ 100 := Nat.pow_le_pow_right (by decide) hk2
      have h4 : (10 : Nat) ^ 100 < 2 ^ 1920 := by decide +kernel
      omega
  · simp only [PyData.shown]
    exact toString_length_le h0 hk h
theorem shownAll_map : ∀ ds : List PyData, PyData.shownAll ds = ds.map PyData.shown
  | [] => rfl
  | d :: r => by simp only [PyData.shownAll, List.map_cons, shownAll_map r]
theorem piled_le {n : Nat} : ∀ {ds : List PyData}, (∀ d ∈ ds, d.shown.length ≤ n) → piled (ds.map PyData.shown) ≤ ds.length * (n + 2)
  | [], _ => by simp [piled_nil]
  | d :: r, h => by
    have h1 := piled_le (ds := r) fun x hx => h x (List.mem_cons_of_mem _ hx)
    have h2 := h d List.mem_cons_self
    rw [List.map_cons, piled_cons, List.length_cons, Nat.succ_mul]
    omega
theorem showAll_of {dep n : Nat} : ∀ {ds : List PyData}, (∀ d ∈ ds, Shw dep n d) → PyData.showableAll ds = true ∧ PyData.hasDictAll ds = false ∧ PyData.depthAll ds ≤ dep
  | [], _ => ⟨by simp only [PyData.showableAll], by simp only [PyData.hasDictAll], by simp [PyData.depthAll]⟩
  | d :: r, h => by
    obtain ⟨h1, h2, h3⟩ := showAll_of (ds := r) fun x hx => h x (List.mem_cons_of_mem _ hx)
    have g := h d List.mem_cons_self
    refine ⟨by simp only [PyData.showableAll, g.sh, h1, Bool.and_self], by simp only [PyData.hasDictAll, g.nd, h2, Bool.or_self], ?_⟩
    simp only [PyData.depthAll]
    exact Nat.max_le.mpr ⟨g.dp, h3⟩
theorem tupleText_len (ts : List Str) : (tupleText ts).length ≤ piled ts + 3 := by
  unfold tupleText
  rw [strLen_append, strLen_append]
  have e1 : (("(" : Str)).length = 1 := by decide +kernel
  have e2 : ((if ts.length == 1 then ",)" else ")" : String) : Str).length ≤ 2 := by
    cases ts.length == 1 <;> decide +kernel
  by_cases h : ts = []
  · subst h
    have : (Str.join ", " ([] : List Str)).length = 0 := by decide +kernel
    omega
  · have := join_length_add ts h
    omega
theorem textFrom_le : ∀ (ts : List Str) (k : Nat) (acc : Str), (textFrom k acc ts).length ≤ acc.length + piled ts
  | [], k, acc => by simp [textFrom, piled_nil]
  | t :: r, k, acc => by
    have h := textFrom_le r (k + 1) (acc ++ (if k > 0 then ", " else "" : String) ++ t)
    rw [piled_cons]
    show (textFrom (k + 1) _ r).length ≤ _
    have e : ((if k > 0 then ", " else "" : String) : Str).length ≤ 2 := by split <;> decide +kernel
    rw [strLen_append, strLen_append] at h
    omega
theorem listText_len (ts : List Str) : (listText ts).length ≤ piled ts + 2 := by
  unfold listText
  rw [strLen_append]
  have h := textFrom_le ts 0 "["
  have e1 : (("[" : Str)).length = 1 := by decide +kernel
  have e2 : (("]" : Str)).length = 1 := by decide +kernel
  omega
theorem Shw.tuple {dep n m : Nat} {ds : List PyData} (h : ∀ d ∈ ds, Shw dep n d) (hm : ds.length ≤ m) : Shw (dep + 1) (m * (n + 2) + 3) (.tuple ds) := by
  obtain ⟨h1, h2, h3⟩ := showAll_of h
  refine ⟨by simp only [PyData.showable, h1], by simp only [PyData.hasDict, h2], by simp only [PyData.depth]; omega, ?_⟩
  simp only [PyData.shown]
  rw [shownAll_map]
  have a1 := tupleText_len (ds.map PyData.shown)
  have a2 := piled_le fun d hd => (h d hd).ln
  have a3 : ds.length * (n + 2) ≤ m * (n + 2) := Nat.mul_le_mul_right _ hm
  omega
theorem Shw.list {dep n m : Nat} {ds : List PyData} (h : ∀ d ∈ ds, Shw dep n d) (hm : ds.length ≤ m) : Shw (dep + 1) (m * (n + 2) + 3) (.list ds) := by
  obtain ⟨h1, h2, h3⟩ := showAll_of h
  refine ⟨by simp only [PyData.showable, h1], by simp only [PyData.hasDict, h2], by simp only [PyData.depth]; omega, ?_⟩
  simp only [PyData.shown]
  rw [shownAll_map]
  have a1 := listText_len (ds.map PyData.shown)
  have a2 := piled_le fun d hd => (h d hd).ln
  have a3 : ds.length * (n + 2) ≤ m * (n + 2) := Nat.mul_le_mul_right _ hm
  omega

/-! ### the deck, panels -/
/-- only what stands at a and c may have changed -/
def But (a c : Addr) (H H' : Hp) : Prop := ∀ b o, b ≠ a → b ≠ c → H b = some o → H' b = some o
theorem But.refl (a c : Addr) (H : Hp) : But a c H H := fun _ _ _ _ h => h
theorem But.trans {a c : Addr} {H H1 H2 : Hp} (x : But a c H H1) (y : But a c H1 H2) : But a c H H2 := fun b o h1 h2 h => y b o h1 h2 (x b o h1 h2 h)
theorem But.of {a c : Addr} {H H' : Hp} (x : Same H H') : But a c H H' := fun b o _ _ h => x b o h
theorem same_new {H : Hp} {p : Addr} {o : HO} (h : H p = none) : Same H (upd H p o) := fun b x e => by
  rw [upd_ne (ne_of_none e h)]; exact e
/-- the deck at a, its cells at c, m draws may still be made -/
def Deck (H : Hp) (a c : Addr) (m : Nat) : Prop :=
  ∃ (cells : List Int) (n : Nat), H a = some (.lst [.ref c, .int (n : Int)]) ∧ H c = some (.lst (cells.map V.int)) ∧ a ≠ c ∧ cells.length ≤ 63 ∧ n + m ≤ 1000000
theorem Deck.same {H H' : Hp} {a c : Addr} {m : Nat} (e : Same H H') (h : Deck H a c m) : Deck H' a c m :=
  let ⟨cs, n, h1, h2, h3⟩ := h; ⟨cs, n, e _ _ h1, e _ _ h2, h3⟩
theorem Deck.less {H : Hp} {a c : Addr} {m m' : Nat} (h : Deck H a c m) (z : m' ≤ m) : Deck H a c m' :=
  let ⟨cs, n, h1, h2, h3, h4, h5⟩ := h; ⟨cs, n, h1, h2, h3, h4, by omega⟩
theorem Deck.apart {H : Hp} {a c : Addr} {m : Nat} (h : Deck H a c m) {b : Addr} {o : HO} (e : H b = some o) (ho : ∀ xs, o ≠ .lst xs) : b ≠ a ∧ b ≠ c := by
  obtain ⟨cs, n, h1, h2, _⟩ := h
  exact ⟨ne_of e h1 (ho _), ne_of e h2 (ho _)⟩
theorem Deck.fresh {H : Hp} {a c : Addr} {m : Nat} (h : Deck H a c m) {b : Addr} (e : H b = none) : b ≠ a ∧ b ≠ c := by
  obtain ⟨cs, n, h1, h2, _⟩ := h
  exact ⟨Ne.symm (ne_of_none h1 e), Ne.symm (ne_of_none h2 e)⟩
theorem FT.but {H H' : Hp} {a c p : Addr} {m : Nat} {xs : List V} (d : Deck H a c m) (b : But a c H H') (h : FT H p xs) : FT H' p xs := by
  obtain ⟨o, e, z⟩ := h
  have q := d.apart e (fun _ => by intro z; cases z)
  exact ⟨o, b _ _ q.1 q.2 e, z⟩
theorem tup_but {H H' : Hp} {a c p : Addr} {m : Nat} {xs : List V} (d : Deck H a c m) (b : But a c H H') (h : H p = some (.tup xs)) : H' p = some (.tup xs) := by
  have q := d.apart h (fun _ => by intro z; cases z)
  exact b _ _ q.1 q.2 h
/-- a panel at p -/
def PanAt (H : Hp) (p : Addr) (pan : List (List Int)) : Prop := ∃ qs : List Addr, FT H p (qs.map V.ref) ∧ Paired (fun q l => FT H q (l.map V.int)) qs pan
theorem PanAt.same {H H' : Hp} {p : Addr} {pan : List (List Int)} (e : Same H H') (h : PanAt H p pan) : PanAt H' p pan :=
  let ⟨qs, h1, h2⟩ := h; ⟨qs, h1.same e, h2.mono fun _ _ x => x.same e⟩
theorem PanAt.but {H H' : Hp} {a c p : Addr} {m : Nat} {pan : List (List Int)} (d : Deck H a c m) (b : But a c H H') (h : PanAt H p pan) : PanAt H' p pan :=
  let ⟨qs, h1, h2⟩ := h; ⟨qs, h1.but d b, h2.mono fun _ _ x => x.but d b⟩
theorem paired_get {α β : Type} {F : α → β → Prop} : ∀ {l1 : List α} {l2 : List β}, Paired F l1 l2 → ∀ (i : Nat) (y : β), l2[i]? = some y → ∃ x, l1[i]? = some x ∧ F x y
  | _, _, .nil, i, y, h => by simp at h
  | _, _, .cons r t, 0, y, h => by simp at h; subst h; exact ⟨_, rfl, r⟩
  | _, _, .cons r t, i + 1, y, h => by
    obtain ⟨x, h1, h2⟩ := paired_get t i y (by simpa using h)
    exact ⟨x, by simpa using h1, h2⟩
/-- what the document calls a panel of at most ten buttons -/
structure Good (pan : List (List Int)) : Prop where
  pos : 1 ≤ pan.length
  few : pan.length ≤ 10
  up : ∀ l ∈ pan, l.Pairwise (· < ·)
  rng : ∀ l ∈ pan, ∀ x ∈ l, 0 ≤ x ∧ x < (pan.length : Int)
  own : ∀ (i : Nat) (l : List Int), pan[i]? = some l → (i : Int) ∉ l
def dInts (l : List Int) : PyData := .tuple (l.map PyData.int)
def dPan (pan : List (List Int)) : PyData := .tuple (pan.map dInts)
section
variable {K : PySem.W.Frag} {H : Hp}
theorem dpAll_ints : ∀ l : List Int, DpAll K H (l.map V.int) (l.map PyData.int)
  | [] => .nil
  | x :: r => .cons (.int x) (dpAll_ints r)
theorem dp_ints {q : Addr} {l : List Int} (h : SqT K H q (l.map V.int)) : Dp K H (.ref q) (dInts l) := .tup h (dpAll_ints l)
theorem dpAll_pan : ∀ {qs : List Addr} {pan : List (List Int)}, Paired (fun q l => FT H q (l.map V.int)) qs pan → DpAll K H (qs.map V.ref) (pan.map dInts)
  | _, _, .nil => .nil
  | _, _, .cons r t => .cons (dp_ints r.sq) (dpAll_pan t)
theorem PanAt.dp {p : Addr} {pan : List (List Int)} (h : PanAt H p pan) : Dp K H (.ref p) (dPan pan) := by
  obtain ⟨qs, h1, h2⟩ := h
  exact .tup h1.sq (dpAll_pan h2)
end
theorem pw_length {n : Nat} : ∀ {l : List Int} {lo : Int}, l.Pairwise (· < ·) → (∀ x ∈ l, lo ≤ x ∧ x < lo + n) → l.length ≤ n := by
  induction n with
  | zero =>
    intro l lo _ h
    cases l with
    | nil => exact Nat.le_refl _
    | cons x r => have := h x List.mem_cons_self; omega
  | succ n ih =>
    intro l lo hp h
    cases l with
    | nil => exact Nat.zero_le _
    | cons x r =>
      have hx := h x List.mem_cons_self
      rw [List.pairwise_cons] at hp
      have := ih (l := r) (lo := lo + 1) hp.2 fun y hy => by
        have h1 := hp.1 y hy
        have h2 := h y (List.mem_cons_of_mem _ hy)
        omega
      rw [List.length_cons]; omega
theorem shw_ints {l : List Int} {m : Nat} (hl : l.length ≤ m) (h : ∀ x ∈ l, 0 ≤ x ∧ x < 10) : Shw 1 (m * 3 + 3) (dInts l) := by
  refine Shw.tuple (fun d hd => ?_) (by rw [List.length_map]; exact hl)
  obtain ⟨x, hx, rfl⟩ := List.mem_map.mp hd
  exact Shw.int (h x hx).1 (by decide) (by decide) (h x hx).2
theorem Good.shw {pan : List (List Int)} (g : Good pan) : Shw 2 353 (dPan pan) := by
  have := Shw.tuple (dep := 1) (n := 33) (m := 10) (ds := pan.map dInts) (fun d hd => ?_) (by rw [List.length_map]; exact g.few)
  · exact this
  · obtain ⟨l, hl, rfl⟩ := List.mem_map.mp hd
    have hf := g.few
    refine shw_ints (m := 10) (pw_length (n := 10) (lo := 0) (g.up l hl) fun x hx => ?_) fun x hx => ?_
    · have := g.rng l hl x hx; omega
    · have := g.rng l hl x hx; omega
end Pr
/-! Presses, as plain functions. -/
namespace Pr
open PySem PySem.Spec PyProof.Rows L2
def intL (n : Nat) : List Int := (List.range n).map fun i : Nat => (i : Int)
theorem mem_intL {n : Nat} {x : Int} : x ∈ intL n ↔ 0 ≤ x ∧ x < (n : Int) := by
  unfold intL
  rw [List.mem_map]
  constructor
  · rintro ⟨i, hi, rfl⟩
    have := List.mem_range.mp hi
    omega
  · rintro ⟨h0, h1⟩
    exact ⟨x.toNat, List.mem_range.mpr (by omega), Int.toNat_of_nonneg h0⟩
theorem intL_up (n : Nat) : (intL n).Pairwise (· < ·) := by
  unfold intL
  rw [List.pairwise_map]
  exact List.pairwise_lt_range.imp fun {a b} (h : a < b) => by omega
theorem intL_len (n : Nat) : (intL n).length = n := by unfold intL; rw [List.length_map, List.length_range]
theorem intL_succ (n : Nat) : intL (n + 1) = intL n ++ [(n : Int)] := by unfold intL; rw [List.range_succ, List.map_append]; rfl
/-- a state of n buttons -/
structure Asc (n : Nat) (st : List Int) : Prop where
  up : st.Pairwise (· < ·)
  rng : ∀ x ∈ st, 0 ≤ x ∧ x < (n : Int)
theorem Asc.nil (n : Nat) : Asc n [] := ⟨List.Pairwise.nil, fun _ h => by cases h⟩
theorem Asc.full (n : Nat) : Asc n (intL n) := ⟨intL_up n, fun _ h => mem_intL.mp h⟩
theorem Asc.filter (n : Nat) (f : Int → Bool) : Asc n ((intL n).filter f) := ⟨(intL_up n).filter f, fun _ h => mem_intL.mp (List.mem_filter.mp h).1⟩
theorem Asc.len {n : Nat} {st : List Int} (h : Asc n st) : st.length ≤ n := pw_length (lo := 0) h.up fun x hx => by have := h.rng x hx; omega
theorem asc_ext : ∀ {l1 l2 : List Int}, l1.Pairwise (· < ·) → l2.Pairwise (· < ·) → (∀ x, x ∈ l1 ↔ x ∈ l2) → l1 = l2
  | [], [], _, _, _ => rfl
  | [], y :: r, _, _, h => absurd ((h y).mpr List.mem_cons_self) (by simp)
  | x :: r, [], _, _, h => absurd ((h x).mp List.mem_cons_self) (by simp)
  | x :: r, y :: t, h1, h2, h => by
    rw [List.pairwise_cons] at h1 h2
    have exy : x = y := by
      rcases List.mem_cons.mp ((h x).mp List.mem_cons_self) with e | e
      · exact e
      · rcases List.mem_cons.mp ((h y).mpr List.mem_cons_self) with e' | e'
        · exact e'.symm
        · have a1 := h2.1 x e
          have a2 := h1.1 y e'
          omega
    subst exy
    have : r = t := asc_ext h1.2 h2.2 fun z => by
      constructor
      · intro hz
        rcases List.mem_cons.mp ((h z).mp (List.mem_cons_of_mem _ hz)) with e | e
        · have := h1.1 z hz; omega
        · exact e
      · intro hz
        rcases List.mem_cons.mp ((h z).mpr (List.mem_cons_of_mem _ hz)) with e | e
        · have := h2.1 z hz; omega
        · exact e
    rw [this]
theorem Asc.eq {n : Nat} {st : List Int} (h : Asc n st) : (intL n).filter (fun x => decide (x ∈ st)) = st :=
  asc_ext ((intL_up n).filter _) h.up fun x => by
    rw [List.mem_filter, decide_eq_true_eq, mem_intL]
    exact ⟨fun q => q.2, fun q => ⟨h.rng x q, q⟩⟩
def pressM (pan : List (List Int)) (st : List Int) (b : Int) : List Int := (intL pan.length).filter fun x => decide (x = b ∨ (x ∈ st ∧ x ∉ pan.getD b.toNat []))
def runM (pan : List (List Int)) (st : List Int) (row : List Int) : List Int := row.foldl (pressM pan) st
theorem pressM_asc (pan : List (List Int)) (st : List Int) (b : Int) : Asc pan.length (pressM pan st b) := Asc.filter _ _
theorem runM_asc {pan : List (List Int)} : ∀ {row st : List Int}, Asc pan.length st → Asc pan.length (runM pan st row)
  | [], _, h => h
  | b :: r, st, _ => runM_asc (row := r) (pressM_asc pan st b)
theorem mem_pressM {pan : List (List Int)} {st : List Int} {b x : Int} : x ∈ pressM pan st b ↔ (0 ≤ x ∧ x < (pan.length : Int)) ∧ (x = b ∨ (x ∈ st ∧ x ∉ pan.getD b.toNat [])) := by
  unfold pressM
  rw [List.mem_filter, decide_eq_true_eq, mem_intL]
theorem runM_take {pan : List (List Int)} {st row : List Int} {k : Nat} {b : Int} (h : row[k]? = some b) : runM pan st (row.take (k + 1)) = pressM pan (runM pan st (row.take k)) b := by
  unfold runM
  rw [List.take_add_one, h, List.foldl_append]; rfl
/-- what press_button makes: the kept ones and the button, sorted -/
theorem press_sorted {pan : List (List Int)} {st : List Int} {b : Int} {ns : List Int} (hs : Asc pan.length st) (h0 : 0 ≤ b) (h1 : b < (pan.length : Int))
    (hp : ns.Perm (st.filter (fun x => decide (x ≠ b ∧ x ∉ pan.getD b.toNat [])) ++ [b])) (hle : ns.Pairwise (· ≤ ·)) : ns = pressM pan st b := by
  have nd0 : (st.filter (fun x => decide (x ≠ b ∧ x ∉ pan.getD b.toNat [])) ++ [b]).Nodup := by
    refine List.nodup_append.mpr ⟨(hs.up.imp fun {x y} (q : x < y) => by omega : st.Nodup).filter _, by simp, fun x hx y hy e => ?_⟩
    rw [List.mem_singleton] at hy
    have := (List.mem_filter.mp hx).2
    rw [decide_eq_true_eq] at this
    exact this.1 (e.trans hy)
  have nd : ns.Nodup := hp.nodup_iff.mpr nd0
  have up : ns.Pairwise (· < ·) := (hle.and nd).imp fun {x y} (q : x ≤ y ∧ x ≠ y) => by omega
  refine asc_ext up (pressM_asc pan st b).up fun x => ?_
  rw [hp.mem_iff, mem_pressM, List.mem_append, List.mem_filter, decide_eq_true_eq, List.mem_singleton]
  constructor
  · rintro (⟨a1, a2⟩ | a)
    · exact ⟨hs.rng x a1, .inr ⟨a1, a2.2⟩⟩
    · subst a; exact ⟨⟨h0, h1⟩, .inl rfl⟩
  · rintro ⟨_, a | a⟩
    · exact .inr a
    · by_cases e : x = b
      · exact .inr e
      · exact .inl ⟨a.1, e, a.2⟩
/-- marks -/
def marks (n : Nat) (st : List Int) : List Bool := (List.range n).map fun i : Nat => decide ((i : Int) ∈ st)
theorem marks_len (n : Nat) (st : List Int) : (marks n st).length = n := by unfold marks; rw [List.length_map, List.length_range]
theorem marks_get {n : Nat} {st : List Int} {i : Nat} (h : i < n) : (marks n st)[i]? = some (decide ((i : Int) ∈ st)) := by
  unfold marks
  rw [List.getElem?_map, List.getElem?_range h]; rfl
theorem marks_set {pan : List (List Int)} {st : List Int} {b : Nat} (hb : b < pan.length) :
    ((List.range pan.length).map fun i : Nat => (decide ((i : Int) ∈ st) && !decide ((i : Int) ∈ pan.getD b []))).set b true = marks pan.length (pressM pan st (b : Int)) := by
  refine List.ext_getElem? fun i => ?_
  by_cases hi : i < pan.length
  · rw [marks_get hi, List.getElem?_set]
    by_cases e : b = i
    · subst e
      rw [if_pos rfl, if_pos (by rw [List.length_map, List.length_range]; exact hi)]
      congr 1
      exact (decide_eq_true (mem_pressM.mpr ⟨⟨by omega, by omega⟩, .inl rfl⟩)).symm
    · rw [if_neg e, List.getElem?_map, List.getElem?_range hi]
      show some _ = some _
      congr 1
      rw [Bool.eq_iff_iff, Bool.and_eq_true, decide_eq_true_eq, Bool.not_eq_true', decide_eq_false_iff_not, decide_eq_true_eq, mem_pressM, Int.toNat_natCast]
      constructor
      · rintro ⟨a, a'⟩
        exact ⟨⟨by omega, by omega⟩, .inr ⟨a, a'⟩⟩
      · rintro ⟨_, a | a⟩
        · omega
        · exact a
  · rw [List.getElem?_eq_none (by rw [List.length_set, List.length_map, List.length_range]; omega), List.getElem?_eq_none (by rw [marks_len]; omega)]
end Pr
/-! Effects, as plain functions; a tuple repeated; zip of two tuples. -/
namespace Pr
open PySem PySem.Spec PyProof.Rows L2
abbrev wSame : Str := "same"
abbrev wOn : Str := "on"
abbrev wOff : Str := "off"
/-- a press of b behind, where c had the word w -/
def wordM (pan : List (List Int)) (c : Int) (w : Str) (b : Int) : Str := if b = c then wOn else if c ∈ pan.getD b.toNat [] then wOff else w
def wordsM (pan : List (List Int)) (row : List Int) (c : Int) : Str := row.foldl (wordM pan c) wSame
def effM (pan : List (List Int)) (row : List Int) : List Str := (List.range pan.length).map fun c : Nat => wordsM pan row (c : Int)
def onM (l : List Int) (b : Int) (c : Nat) : Str := if (c : Int) ∈ l then wOff else if (c : Int) = b then wOn else wSame
def pressW (pan : List (List Int)) (b : Int) : List Str := (List.range pan.length).map (onM (pan.getD b.toNat []) b)
def joinM (xs ys : List Str) : List Str := List.zipWith (fun e l => if l = wSame then e else l) xs ys
theorem effM_len (pan : List (List Int)) (row : List Int) : (effM pan row).length = pan.length := by unfold effM; rw [List.length_map, List.length_range]
theorem pressW_len (pan : List (List Int)) (b : Int) : (pressW pan b).length = pan.length := by unfold pressW; rw [List.length_map, List.length_range]
theorem joinM_len {xs ys : List Str} (h : xs.length = ys.length) : (joinM xs ys).length = ys.length := by unfold joinM; rw [List.length_zipWith, h, Nat.min_self]
theorem effM_nil (pan : List (List Int)) : effM pan [] = List.replicate pan.length wSame := by
  unfold effM
  show (List.range pan.length).map (fun _ => wSame) = _
  rw [List.map_const', List.length_range]
theorem same_ne_on : wSame ≠ wOn := by decide +kernel
theorem same_ne_off : wSame ≠ wOff := by decide +kernel
theorem on_ne_off : wOn ≠ wOff := by decide +kernel
theorem Good.own' {pan : List (List Int)} (g : Good pan) {b : Int} (h0 : 0 ≤ b) (h1 : b < (pan.length : Int)) : b ∉ pan.getD b.toNat [] := by
  have hb : b.toNat < pan.length := by omega
  have := g.own b.toNat pan[b.toNat] (List.getElem?_eq_getElem hb)
  rw [List.getD_eq_getElem?_getD, List.getElem?_eq_getElem hb]
  rw [Int.toNat_of_nonneg h0] at this
  exact this
theorem wordM_join {pan : List (List Int)} (g : Good pan) {b : Int} (h0 : 0 ≤ b) (h1 : b < (pan.length : Int)) (c : Nat) (w : Str) :
    (if onM (pan.getD b.toNat []) b c = wSame then w else onM (pan.getD b.toNat []) b c) = wordM pan (c : Int) w b := by
  unfold onM wordM
  by_cases e : (c : Int) ∈ pan.getD b.toNat []
  · have hne : b ≠ (c : Int) := fun z => g.own' h0 h1 (z ▸ e)
    rw [if_pos e, if_neg hne, if_pos e, if_neg (Ne.symm same_ne_off)]
  · rw [if_neg e, if_neg e]
    by_cases e2 : (c : Int) = b
    · rw [if_pos e2, if_pos e2.symm, if_neg (Ne.symm same_ne_on)]
    · rw [if_neg e2, if_pos rfl, if_neg (Ne.symm e2)]
theorem eff_step {pan : List (List Int)} (g : Good pan) {b : Int} (h0 : 0 ≤ b) (h1 : b < (pan.length : Int)) (row : List Int) : joinM (effM pan row) (pressW pan b) = effM pan (row ++ [b]) := by
  unfold joinM effM pressW
  rw [List.zipWith_map, List.zipWith_self]
  refine List.map_congr_left fun c _ => ?_
  rw [wordM_join g h0 h1]
  unfold wordsM
  rw [List.foldl_append]; rfl
theorem eff_take {pan : List (List Int)} (g : Good pan) {row : List Int} {k : Nat} {b : Int} (hk : row[k]? = some b) (h0 : 0 ≤ b) (h1 : b < (pan.length : Int)) : joinM (effM pan (row.take k)) (pressW pan b) = effM pan (row.take (k + 1)) := by
  rw [eff_step g h0 h1, List.take_add_one, hk]; rfl
theorem word3 (pan : List (List Int)) (c : Int) : ∀ row : List Int, wordsM pan row c = wSame ∨ wordsM pan row c = wOn ∨ wordsM pan row c = wOff := by
  intro row
  unfold wordsM
  have : ∀ (l : List Int) (w : Str), (w = wSame ∨ w = wOn ∨ w = wOff) → (l.foldl (wordM pan c) w = wSame ∨ l.foldl (wordM pan c) w = wOn ∨ l.foldl (wordM pan c) w = wOff) := by
    intro l
    induction l with
    | nil => exact fun w h => h
    | cons b r ih =>
      intro w h
      rw [List.foldl_cons]
      refine ih _ ?_
      unfold wordM
      split
      · exact .inr (.inl rfl)
      · split
        · exact .inr (.inr rfl)
        · exact h
  exact this row _ (.inl rfl)
theorem eff3 {pan : List (List Int)} {row : List Int} {x : Str} (h : x ∈ effM pan row) : x = wSame ∨ x = wOn ∨ x = wOff := by
  unfold effM at h
  obtain ⟨c, _, rfl⟩ := List.mem_map.mp h
  exact word3 pan c row
theorem set_map_range {α : Type} (f : Nat → α) (n j : Nat) (v : α) : ((List.range n).map f).set j v = (List.range n).map fun c => if c = j then v else f c := by
  refine List.ext_getElem? fun i => ?_
  rw [List.getElem?_set, List.getElem?_map]
  by_cases h : i < n
  · rw [List.getElem?_map, List.getElem?_range h, List.length_map, List.length_range]
    by_cases e : j = i
    · subst e; rw [if_pos rfl, if_pos h]; simp
    · rw [if_neg e]; simp [Ne.symm e]
  · rw [List.getElem?_map, List.getElem?_eq_none (by rw [List.length_range]; omega), List.length_map, List.length_range]
    by_cases e : j = i
    · subst e; rw [if_pos rfl, if_neg h]; rfl
    · rw [if_neg e]; rfl
theorem replicate_map_range {α : Type} (n : Nat) (v : α) : List.replicate n v = (List.range n).map fun _ => v := by
  rw [List.map_const', List.length_range]
/-! ### data -/
def dStrs (l : List Str) : PyData := .tuple (l.map PyData.str)
theorem dpAll_strs {K : PySem.W.Frag} {H : Hp} : ∀ l : List Str, DpAll K H (l.map V.str) (l.map PyData.str)
  | [] => .nil
  | x :: r => .cons (.str x) (dpAll_strs r)
theorem dp_strs {K : PySem.W.Frag} {H : Hp} {q : Addr} {l : List Str} (h : SqT K H q (l.map V.str)) : Dp K H (.ref q) (dStrs l) := .tup h (dpAll_strs l)
theorem shw_word {x : Str} (h : x = wSame ∨ x = wOn ∨ x = wOff) : Shw 0 6 (.str x) := by
  refine ⟨by simp only [PyData.showable], by simp only [PyData.hasDict], by simp [PyData.depth], ?_⟩
  simp only [PyData.shown]
  rcases h with rfl | rfl | rfl <;> decide +kernel
theorem shw_words {l : List Str} {m : Nat} (hl : l.length ≤ m) (h : ∀ x ∈ l, x = wSame ∨ x = wOn ∨ x = wOff) : Shw 1 (m * 8 + 3) (dStrs l) := by
  refine Shw.tuple (fun d hd => ?_) (by rw [List.length_map]; exact hl)
  obtain ⟨x, hx, rfl⟩ := List.mem_map.mp hd
  exact shw_word (h x hx)
theorem shw_eff {pan : List (List Int)} (g : Good pan) (row : List Int) : Shw 1 83 (dStrs (effM pan row)) :=
  shw_words (m := 10) (by rw [effM_len]; exact g.few) fun _ h => eff3 h
/-! ### (x,) * n -/
section
variable {X : Cx}
def rRepS (K : PySem.W.Frag) : R2 := fun x y H Q => rRep1 K x y H Q ∨ rRepT K x y H Q
theorem op_repS : OpR X (binaryOp .Mult) (rRepS X.K) := by
  intro pins s σ H x y v u Q I rx ry h
  rcases h with h | h
  · exact op_rep1 pins s σ H x y v u Q I rx ry h
  · exact op_repT pins s σ H x y v u Q I rx ry h
end
theorem rep_flat {α : Type} (n : Nat) (v : α) : (List.replicate n [v]).flatten = List.replicate n v := by
  induction n with
  | zero => rfl
  | succ n ih => rw [List.replicate_succ, List.flatten_cons, ih]; rfl
/-! ### zip of tuples -/
theorem walk_zipT {K : PySem.W.Frag} {a b : Addr} {xs ys : List V} {n : Nat} (hn : n = min xs.length ys.length) : Walk (RZ.ItzT K a b) n (fun H => SqT K H a xs ∧ SqT K H b ys) (YPair (fun i => xs[i]?) (fun i => ys[i]?)) := by
  subst hn
  refine ⟨fun i _ hi q => ?_, fun _ q => ⟨xs, ys, q.1, q.2, by omega⟩, fun i H v H' _ q y => ?_⟩
  · have h1 : i < xs.length := by omega
    have h2 : i < ys.length := by omega
    exact ⟨xs, ys, xs[i], ys[i], q.1, q.2, by simp [h1], by simp [h2]⟩
  · obtain ⟨T, x, z, h1, h2, h3, h4, h5⟩ := y
    exact ⟨T, x, z, h1, h2, h3, h4 xs q.1, h5 ys q.2⟩
theorem str_get {os : List Str} {k : Nat} {x : V} (h : (os.map V.str)[k]? = some x) : ∃ z, os[k]? = some z ∧ x = .str z := by
  rw [List.getElem?_map] at h
  cases e : os[k]? with
  | none => rw [e] at h; cases h
  | some z => rw [e] at h; exact ⟨z, rfl, (Option.some.inj h).symm⟩
theorem int_get {os : List Int} {k : Nat} {x : V} (h : (os.map V.int)[k]? = some x) : ∃ z, os[k]? = some z ∧ x = .int z := by
  rw [List.getElem?_map] at h
  cases e : os[k]? with
  | none => rw [e] at h; cases h
  | some z => rw [e] at h; exact ⟨z, rfl, (Option.some.inj h).symm⟩
theorem joinM_get {xs ys : List Str} {i : Nat} {x y : Str} (hx : xs[i]? = some x) (hy : ys[i]? = some y) : (joinM xs ys)[i]? = some (if y = wSame then x else y) := by
  unfold joinM
  rw [List.getElem?_zipWith, hx, hy]
theorem ixN_nat {n j : Nat} (h : j < n) : ixN n (j : Int) = some j := by
  unfold ixN
  rw [if_pos (by omega), if_pos (by omega)]; rfl
theorem gen_heap {X : Hp} {R : Hp → Prop} (C : Hp → Prop) (hX : C X) (h : ∀ H', C H' → R H') : R X := h X hX
theorem gen_name {i : Nat} {v : V} {σ : L2.St} {X : Hp} {D : L2.St → Hp → Prop} (C : Hp → Prop) (hX : C X) (h : ∀ H', C H' → gName i v σ H' D) : gName i v σ X D := h X hX
theorem tyes {σ : L2.St} {H : Hp} {Q : Bool → Hp → Prop} (h : Q true H) : tYes σ H Q := h
theorem pan_at {H : Hp} {p : Addr} {pan : List (List Int)} (h : PanAt H p pan) {b : Int} (h0 : 0 ≤ b) (h1 : b < (pan.length : Int)) :
    ∃ (qs : List Addr) (q : Addr), FT H p (qs.map V.ref) ∧ atI (qs.map V.ref) b = some (.ref q) ∧ FT H q ((pan.getD b.toNat []).map V.int) ∧ qs.length = pan.length := by
  obtain ⟨qs, hq, hqs⟩ := h
  obtain ⟨n, rfl⟩ : ∃ n : Nat, b = (n : Int) := ⟨b.toNat, (Int.toNat_of_nonneg h0).symm⟩
  have hn : n < pan.length := by omega
  obtain ⟨q', g1, g2⟩ := paired_get hqs n pan[n] (List.getElem?_eq_getElem hn)
  refine ⟨qs, q', hq, atI_nat (by rw [List.getElem?_map, g1]; rfl), ?_, hqs.length⟩
  rw [Int.toNat_natCast, List.getD_eq_getElem?_getD, List.getElem?_eq_getElem hn]
  exact g2
theorem inV_ints {b : Int} (l : List Int) : inV (.int b) (l.map V.int) = decide (b ∈ l) := by
  unfold inV
  rw [List.any_map, Bool.eq_iff_iff, List.any_eq_true, decide_eq_true_eq]
  constructor
  · rintro ⟨x, hx, e⟩
    have e' : x = b := by simpa [eqV] using e
    rw [← e']; exact hx
  · intro h
    exact ⟨b, h, by simp [eqV]⟩
theorem flat_ints : ∀ l : List Int, (l.map V.int).all flatV = true
  | [] => rfl
  | x :: r => by rw [List.map_cons, List.all_cons, flat_ints r]; rfl
end Pr
/-! Draws kept in a list of three: the cells, how many were drawn, what is left of the large ones. -/
namespace Pr
open PySem PySem.Spec PyProof.Rows L2
def Dk3 (H : Hp) (a c r : Addr) (m : Nat) : Prop :=
  ∃ (cells rests : List Int) (n : Nat), H a = some (.lst [.ref c, .int (n : Int), .ref r]) ∧ H c = some (.lst (cells.map V.int)) ∧ H r = some (.lst (rests.map V.int)) ∧ a ≠ c ∧ a ≠ r ∧ c ≠ r ∧
    1 ≤ cells.length ∧ cells.length ≤ 63 ∧ rests.length = cells.length ∧ n + m ≤ 1000000
theorem Dk3.same {H H' : Hp} {a c r : Addr} {m : Nat} (e : Same H H') (h : Dk3 H a c r m) : Dk3 H' a c r m :=
  let ⟨cs, rs, n, h1, h2, h3, h4⟩ := h; ⟨cs, rs, n, e _ _ h1, e _ _ h2, e _ _ h3, h4⟩
theorem Dk3.less {H : Hp} {a c r : Addr} {m m' : Nat} (h : Dk3 H a c r m) (z : m' ≤ m) : Dk3 H a c r m' :=
  let ⟨cs, rs, n, h1, h2, h3, h4, h5, h6, h7, h8, h9, h10⟩ := h; ⟨cs, rs, n, h1, h2, h3, h4, h5, h6, h7, h8, h9, by omega⟩
theorem Dk3.apart {H : Hp} {a c r : Addr} {m : Nat} (h : Dk3 H a c r m) {b : Addr} {o : HO} (e : H b = some o) (ho : ∀ xs, o ≠ .lst xs) : b ≠ a ∧ b ≠ r := by
  obtain ⟨cs, rs, n, h1, h2, h3, _⟩ := h
  exact ⟨ne_of e h1 (ho _), ne_of e h3 (ho _)⟩
theorem Dk3.fresh {H : Hp} {a c r : Addr} {m : Nat} (h : Dk3 H a c r m) {b : Addr} (e : H b = none) : b ≠ a ∧ b ≠ r ∧ b ≠ c := by
  obtain ⟨cs, rs, n, h1, h2, h3, _⟩ := h
  exact ⟨Ne.symm (ne_of_none h1 e), Ne.symm (ne_of_none h3 e), Ne.symm (ne_of_none h2 e)⟩
theorem FT.but3 {H H' : Hp} {a c r p : Addr} {m : Nat} {xs : List V} (d : Dk3 H a c r m) (b : But a r H H') (h : FT H p xs) : FT H' p xs := by
  obtain ⟨o, e, z⟩ := h
  have q := d.apart e (fun _ => by intro z; cases z)
  exact ⟨o, b _ _ q.1 q.2 e, z⟩
theorem tup_but3 {H H' : Hp} {a c r p : Addr} {m : Nat} {xs : List V} (d : Dk3 H a c r m) (b : But a r H H') (h : H p = some (.tup xs)) : H' p = some (.tup xs) := by
  have q := d.apart h (fun _ => by intro z; cases z)
  exact b _ _ q.1 q.2 h
theorem PanAt.but3 {H H' : Hp} {a c r p : Addr} {m : Nat} {pan : List (List Int)} (d : Dk3 H a c r m) (b : But a r H H') (h : PanAt H p pan) : PanAt H' p pan :=
  let ⟨qs, h1, h2⟩ := h; ⟨qs, h1.but3 d b, h2.mono fun _ _ x => x.but3 d b⟩
/-- a store at a place that is none of the deck's -/
theorem Dk3.upd {H : Hp} {a c r : Addr} {m : Nat} {b : Addr} {o : HO} (h : Dk3 H a c r m) (n : b ≠ a ∧ b ≠ r ∧ b ≠ c) : Dk3 (upd H b o) a c r m := by
  obtain ⟨cs, rs, n', h1, h2, h3, h4⟩ := h
  exact ⟨cs, rs, n', by rw [upd_ne (Ne.symm n.1)]; exact h1, by rw [upd_ne (Ne.symm n.2.2)]; exact h2, by rw [upd_ne (Ne.symm n.2.1)]; exact h3, h4⟩
theorem But.free {a c : Addr} {H H' : Hp} {b : Addr} (x : But a c H H') (h1 : b ≠ a) (h2 : b ≠ c) (e : H' b = none) : H b = none := by
  cases q : H b with
  | none => rfl
  | some o => have := x b o h1 h2 q; rw [e] at this; cases this
theorem cut_ints (ns : List Int) (lo hi : Option Int) : ∃ ms : List Int, cutV (ns.map V.int) lo hi = ms.map V.int ∧ ms.length ≤ ns.length := by
  refine ⟨(ns.drop (HT.sIx ns.length 0 lo)).take (HT.sIx ns.length ns.length hi - HT.sIx ns.length 0 lo), ?_, ?_⟩
  · unfold cutV
    rw [List.length_map, List.map_take, List.map_drop]
  · rw [List.length_take, List.length_drop]; omega
/-- the first 63 of at most 63 -/
theorem cut63 (ns : List Int) (h : ns.length ≤ 63) : cutV (ns.map V.int) none (some 63) = ns.map V.int := by
  unfold cutV
  rw [List.length_map]
  have e1 : HT.sIx ns.length 0 none = 0 := rfl
  rw [e1, List.drop_zero]
  refine List.take_of_length_le ?_
  rw [List.length_map]
  have e2 : HT.sIx ns.length ns.length (some 63) = ns.length := by
    rw [show (63 : Int) = ((63 : Nat) : Int) from rfl, HT.sIx_nat]; omega
  rw [e2]; omega
end Pr
namespace K14
open PySem PySem.Spec PyProof.Rows L2 Pr
def topS (i : Nat) : Stmt := PySem.Challenge.pw_pressrelease_k14_rows_for_effects.main.body.getD i (.Pass ⟨0, 0, 0, 0⟩)
abbrev sNo : Stmt := topS 2
abbrev sPressE : Stmt := topS 3
abbrev sJoin : Stmt := topS 4
abbrev sBehind : Stmt := topS 5
abbrev sPart : Stmt := topS 6
abbrev sWords : Stmt := topS 7
abbrev sUse : Stmt := topS 8
abbrev sFor : Stmt := topS 9
abbrev sDraws : Stmt := topS 11
abbrev sNext : Stmt := topS 12
abbrev sPanel : Stmt := topS 13
abbrev sRow : Stmt := topS 14
abbrev sLEff : Stmt := topS 15
abbrev sLRows : Stmt := topS 16
abbrev sOdd : Stmt := topS 17
abbrev sLWords : Stmt := topS 18
abbrev sDec : Stmt := topS 19
abbrev sLays : Stmt := topS 20
abbrev sBest : Stmt := topS 21
abbrev sIsRow : Stmt := topS 22
abbrev sRight : Stmt := topS 23
abbrev sBent : Stmt := topS 24
abbrev sLaw : Stmt := topS 25
def nDraws : List Str := ["_law_script", "_law_cells", "_law_cell"]
theorem scDraws : FnScope nDraws ["_law_script"] (defScope sDraws) := ⟨rfl, rfl, rfl, by decide +kernel, rfl, by decide +kernel, by decide +kernel⟩
def nNext : List Str := ["_law_drawn", "_law_many", "_law_cells", "_law_nth", "_law_rests", "_law_spot", "_law_digit", "_law_mixed", "_law_more"]
theorem scNext : FnScope nNext ["_law_drawn", "_law_many"] (defScope sNext) := ⟨rfl, rfl, rfl, by decide +kernel, rfl, by decide +kernel, by decide +kernel⟩
section
variable {P : Program} {w : World} {K : PySem.W.Frag} {mg : Str → Option Value} {base : Heap}
def spDraws (K : PySem.W.Frag) : Sp := fun vs H Q _ => ∃ (s : Addr) (ns : List Int), vs = [.ref s] ∧ SqL K H s (ns.map V.int) ∧ ns.length ≤ 63 ∧
  ∀ H' a c r, Same H H' → Dk3 H' a c r 1000000 → Q (.ref a) H'
theorem ok_draws {f : Addr} {fd : FuncData} {k : Nat} (F : Fun K "_law_draws" "_law_draws" sDraws f fd) (ml : mg "len" = none) (mli : mg "list" = none) (mi : mg "int" = none) : FnOk P w K mg base CX0 (k + 1) f fd ["_law_script"] (spDraws K) := by
  refine F.ok scDraws (fun vs H Q E h => ?_) (fun cdv A outer s H vs Q E hr h => ?_)
  · obtain ⟨s, ns, rfl, _⟩ := h
    rfl
  · obtain ⟨sa, ns, rfl, hS, hlen, q⟩ := h
    refine ⟨_, pss_cons (ps_set (i := 1) scDraws.nd rfl (.inl rfl) (pe_op op_cat (pe_callTy call_list_of (by rfl) mli (by decide +kernel) (pa_cons (pe_slice sl_list (pv 0) po_none (po_some pe_int)) pa_nil))
        (pe_op op_rep (pe_lst (pa_cons pe_int pa_nil)) (pe_callTy call_int1 (by rfl) mi (by decide +kernel) (pa_cons (pe_cmpR op_eq (pe_callB call_len_seq (by rfl) ml PySem.boot_len (pa_cons (pv 0) pa_nil)) pe_int (nomark _)) pa_nil)))))
      (pss_one (ps_ret (pe_lst (pa_cons (pv 1) (pa_cons pe_int (pa_cons
        (pe_lc (own := [("_law_cell", 2)]) (g := gName 2) (tt := tYes) rfl scDraws.nd (pi_list (pv 1))
          (blkOk_by (own := [("_law_cell", 2)]) (N := nDraws) (sc := defScope sDraws) (by decide +kernel))
          (fun _ _ _ _ _ => pg_name (i := 2) scDraws.nd rfl (Or.inl rfl)) (fun _ _ _ _ _ => pts_nil)
          (fun _ _ _ _ _ => pe_op op_mul (pv 2) (pe_callTy call_int1 (by rfl) mi (by decide +kernel) (pa_cons (pe_cmpR op_ge (pv 2) (pe_op op_pow pe_int pe_int) (nomark _)) pa_nil))))
        pa_nil)))))), ?_⟩
    refine ⟨.ref sa, rfl, 63, rfl, sa, ns.map V.int, rfl, hS, fun l nl => ?_⟩
    rw [cut63 ns hlen]
    have s1 : Same H (upd H l (.lst (ns.map V.int))) := same_new nl
    refine ⟨l, _, rfl, .inl (.inl (.inl upd_same)), fun l2 nl2 => ?_⟩
    have s2 := s1.trans (same_new (o := .lst (ns.map V.int)) nl2)
    refine ⟨by show 1 ≤ sizeLine; decide, fun L nL => ?_⟩
    have s3 := s2.trans (same_new (o := .lst [.int 0]) nL)
    refine ⟨.ref sa, rfl, sa, _, rfl, .inl (s3.seq hS), rfl, .inr ⟨_, rfl, L, _, _, rfl, rfl, upd_same, ?_, ?_, ?_, fun p np => ?_⟩⟩
    · split <;> omega
    · split <;> omega
    · split <;> (show 1 * _ ≤ sizeLine; decide)
    · obtain ⟨ex, hex, lex⟩ : ∃ ex : List Int, (List.replicate (if decide (V.int ((ns.map V.int).length : Nat) = V.int 0) = true then (1 : Int) else 0).toNat [V.int 0]).flatten = ex.map V.int ∧ (1 ≤ (ns ++ ex).length ∧ (ns ++ ex).length ≤ 63) := by
        by_cases e : ns = []
        · subst e
          exact ⟨[0], rfl, by decide, by decide⟩
        · have hl : 0 < ns.length := List.length_pos_iff.mpr e
          have hne : ¬ (V.int ((ns.map V.int).length : Nat) = V.int 0) := fun z => by
            have := V.int.inj z
            rw [List.length_map] at this; omega
          refine ⟨[], ?_, by rw [List.append_nil]; exact ⟨hl, hlen⟩⟩
          rw [decide_eq_false hne]; rfl
      rw [hex]
      have s4 := s3.trans (same_new (o := .lst (ex.map V.int)) np)
      have np2 : l2 ≠ L := ne_of_none upd_same nL
      have e2 : (upd (upd (upd (upd H l (.lst (ns.map V.int))) l2 (.lst (ns.map V.int))) L (.lst [.int 0])) p (.lst (ex.map V.int))) l2 = some (.lst (ns.map V.int)) :=
        (same_new np) _ _ ((same_new nL) _ _ upd_same)
      refine ⟨l2, p, _, _, rfl, rfl, e2, upd_same, ?_, fun c nc => ?_⟩
      · rw [List.length_append] at lex
        rw [List.length_map, List.length_map]
        exact Nat.le_of_lt (small1000 (by omega))
      · rw [← List.map_append]
        generalize ns ++ ex = cells at lex ⊢
        have s5 := s4.trans (same_new (o := .lst (cells.map V.int)) nc)
        refine gen_name (fun H5 => Same H H5 ∧ H5 c = some (.lst (cells.map V.int))) ⟨s5, upd_same⟩ fun H5 ⟨s5, ec⟩ => ?_
        refine ⟨.ref c, rfl, .ref c, rfl, c, rfl, ⟨_, .inl (.inl ec)⟩, fun D nD => ?_⟩
        refine lc_list (xs := cells.map V.int) (fun i H6 => Same H5 H6 ∧ ∃ rests : List Int, rests.length = i ∧ H6 D = some (.lst (rests.map V.int)))
          ⟨same_new nD, [], rfl, upd_same⟩ (fun i H6 _ hP => hP.1.seq (.inl (.inl ec))) (fun i x H6 hx hP => ?_) (fun H6 hP => ?_)
        · obtain ⟨s6, rests, hrl, eD⟩ := hP
          obtain ⟨z, hz, rfl⟩ := int_get hx
          have hi : i < cells.length := (List.getElem?_eq_some_iff.mp hz).1
          refine ⟨rfl, tyes (iteT ⟨.int z, rfl, .int z, rfl, 10, 18, rfl, rfl, ⟨by decide, by decide, by decide⟩, z, _, rfl, rfl, .inr ⟨_, rfl, z, _, rfl, rfl, .inr ?_, rests.map V.int, eD, ?_, ?_, rests ++ [z * (if decide (10 ^ Int.toNat 18 ≤ z) = true then 1 else 0)], ?_, ?_⟩⟩)⟩
          · split <;> exact ⟨by decide, by decide⟩
          · rw [List.length_map]; exact small1000 (by omega)
          · intro b o e
            rw [upd_ne (ne_of_none e nD)]
            exact s6 _ _ e
          · rw [List.length_append, hrl]; rfl
          · rw [upd_same, List.map_append]; rfl
        · obtain ⟨s6, rests, hrl, eD⟩ := hP
          rw [List.length_map] at hrl
          refine ⟨by show 3 ≤ sizeLine; decide, fun a na => ?_⟩
          have ec6 := s6 _ _ ec
          refine q _ a c D ((s5.trans s6).trans (same_new na)) ⟨cells, rests, 0, upd_same, (same_new na) _ _ ec6, (same_new na) _ _ eD, Ne.symm (ne_of_none ec6 na), Ne.symm (ne_of_none eD na), ne_of_none ec nD, lex.1, lex.2, hrl, by omega⟩

def spNext : Sp := fun vs H Q _ => ∃ (a c r : Addr) (m : Nat) (lim : Int), vs = [.ref a, .int lim] ∧ Dk3 H a c r (m + 1) ∧ 0 < lim ∧ lim < 1000000 ∧
  ∀ H' x, But a r H H' → Dk3 H' a c r m → 0 ≤ x → x < lim → Q (.int x) H'
theorem ok_next {f : Addr} {fd : FuncData} {k : Nat} (F : Fun K "_law_next" "_law_next" sNext f fd) (ml : mg "len" = none) : FnOk P w K mg base CX0 (k + 1) f fd ["_law_drawn", "_law_many"] spNext := by
  refine F.ok scNext (fun vs H Q E h => ?_) (fun cdv A outer s H vs Q E hr h => ?_)
  · obtain ⟨a, c, r, m, lim, rfl, _⟩ := h
    rfl
  · obtain ⟨a, c, r, m, lim, rfl, hD, l0, l1, q⟩ := h
    refine ⟨_, pss_cons (ps_asg (pv 0) (pg_unl rfl (pgs_cons (pg_name (i := 2) scNext.nd rfl (.inl rfl)) (pgs_cons (pg_name (i := 3) scNext.nd rfl (.inl rfl)) (pgs_cons (pg_name (i := 4) scNext.nd rfl (.inl rfl)) pgs_nil)))))
      (pss_cons (ps_set (i := 5) scNext.nd rfl (.inl rfl) (pe_op op_mod (pv 3) (pe_callB call_len_seq (by rfl) ml PySem.boot_len (pa_cons (pv 2) pa_nil))))
      (pss_cons (ps_asg (pe_op op_add (pv 3) pe_int) (pg_sub (pv 0) pe_int set_list))
      (pss_cons (ps_if (pt_cmpR op_gt (pe_ix ix_list (pv 4) (pv 5) (fun _ _ => rfl)) pe_int (nomark _))
        (pss_cons (ps_set (i := 6) scNext.nd rfl (.inl rfl) (pe_op op_mod (pe_ix ix_list (pv 4) (pv 5) (fun _ _ => rfl)) (pv 1)))
          (pss_cons (ps_asg (pe_op op_fdiv (pe_ix ix_list (pv 4) (pv 5) (fun _ _ => rfl)) (pv 1)) (pg_sub (pv 4) (pv 5) set_list))
          (pss_one (ps_ret (pv 6)))))
        pss_nil)
      (pss_cons (ps_set (i := 7) scNext.nd rfl (.inl rfl) (pe_op op_mod (pe_op op_pow (pe_op op_add (pe_op op_add (pe_op op_mod (pe_ix ix_list (pv 2) (pv 5) (fun _ _ => rfl)) pe_int) (pe_op op_mul pe_int (pv 3))) pe_int) pe_int) pe_int))
      (pss_cons (ps_set (i := 8) scNext.nd rfl (.inl rfl) (pe_op op_mod (pe_op op_pow (pe_op op_add (pe_op op_add (pv 7) (pe_op op_mul (pe_op op_mul pe_int (pv 3)) (pv 3))) pe_int) pe_int) pe_int))
      (pss_one (ps_ret (pe_op op_mod (pe_op op_mod (pe_op op_add (pe_op op_mul (pv 8) pe_int) (pv 7)) pe_int) (pv 1))))))))), ?_⟩
    obtain ⟨cells, rests, n, ha, hc, hrr, nac, nar, ncr, lc0, lc1, lr, hn⟩ := hD
    refine ⟨.ref a, rfl, a, _, rfl, .inl (.inl ha), rfl, _, _, rfl, _, _, rfl, _, _, rfl, rfl, ?_⟩
    have hcl : ((cells.map V.int).length : Int) = (cells.length : Int) := by rw [List.length_map]
    refine ⟨.int (n : Int), rfl, .ref c, rfl, c, _, rfl, .inl (.inl (.inl hc)), _, _, rfl, rfl, (by rw [hcl]; omega), ?_⟩
    rw [hcl]
    have l2 := Int.emod_nonneg (n : Int) (show ((cells.length : Int)) ≠ 0 by omega)
    have l3 := Int.emod_lt_of_pos (n : Int) (show (0 : Int) < (cells.length : Int) by omega)
    obtain ⟨j, hj⟩ : ∃ j : Nat, (n : Int) % (cells.length : Int) = (j : Int) := ⟨_, (Int.toNat_of_nonneg l2).symm⟩
    dsimp only
    rw [hj]
    have hjl : j < cells.length := by omega
    have hjr : j < rests.length := by omega
    have gj : (cells.map V.int)[j]? = some (.int cells[j]) := by rw [List.getElem?_map, List.getElem?_eq_getElem hjl]; rfl
    have gr : (rests.map V.int)[j]? = some (.int rests[j]) := by rw [List.getElem?_map, List.getElem?_eq_getElem hjr]; rfl
    refine ⟨.int (n : Int), rfl, (n : Int), 1, rfl, rfl, .ref a, rfl, a, _, 1, 1, rfl, rfl, ha, rfl, ?_⟩
    refine gen_heap (fun H1 => H1 a = some (.lst [.ref c, .int ((n : Int) + 1), .ref r]) ∧ H1 c = some (.lst (cells.map V.int)) ∧ H1 r = some (.lst (rests.map V.int)) ∧ But a r H H1)
      ⟨upd_same, by rw [upd_ne (Ne.symm nac)]; exact hc, by rw [upd_ne (Ne.symm nar)]; exact hrr, fun b o h1 _ e => by rw [upd_ne h1]; exact e⟩ fun H1 ⟨ha1, hc1, hr1, b1⟩ => ?_
    have hcs : SqL K H1 c (cells.map V.int) := .inl (.inl hc1)
    have hrs : SqL K H1 r (rests.map V.int) := .inl (.inl hr1)
    refine ⟨.ref r, rfl, .int (j : Int), rfl, r, _, _, _, rfl, rfl, hrs, atI_nat gr, _, 0, rfl, rfl, _, rfl, ite2 (fun e => ?_) (fun e => ?_)⟩
    · refine ⟨.ref r, rfl, .int (j : Int), rfl, r, _, _, _, rfl, rfl, hrs, atI_nat gr, .int lim, rfl, _, lim, rfl, rfl, l0, ?_⟩
      refine ⟨.ref r, rfl, .int (j : Int), rfl, r, _, _, _, rfl, rfl, hrs, atI_nat gr, .int lim, rfl, _, lim, rfl, rfl, ⟨l0, by omega⟩, .ref r, rfl, .int (j : Int), rfl, r, _, _, j, rfl, rfl, hr1, ixN_nat (by rw [List.length_map]; exact hjr), ?_⟩
      refine ⟨_, rfl, q _ _ (b1.trans fun b o _ h2 e => by rw [upd_ne h2]; exact e) ⟨cells, rests.set j (rests[j] / lim), n + 1, ?_, ?_, ?_, nac, nar, ncr, lc0, lc1, ?_, by omega⟩ (Int.emod_nonneg _ (by omega)) (Int.emod_lt_of_pos _ l0)⟩
      · rw [upd_ne nar, ha1]; rfl
      · rw [upd_ne ncr]; exact hc1
      · rw [upd_same, List.map_set]
      · rw [List.length_set]; exact lr
    · have m1 : 0 ≤ cells[j] % 2147483647 := Int.emod_nonneg _ (by decide)
      have m2 : cells[j] % 2147483647 < 2147483647 := Int.emod_lt_of_pos _ (by decide)
      refine ⟨.ref c, rfl, .int (j : Int), rfl, c, _, _, _, rfl, rfl, hcs, atI_nat gj, _, 2147483647, rfl, rfl, (by show (0 : Int) < 2147483647; decide), .int (n : Int), rfl, 69621, (n : Int), rfl, rfl, .inl ⟨by decide, by decide⟩, _, _, rfl, rfl, _, 30269, rfl, rfl, _, 3, rfl, rfl, ⟨by decide, by decide, ?_⟩,
        _, 2147483629, rfl, rfl, (by show (0 : Int) < 2147483629; decide), ?_⟩
      · omega
      · dsimp only
        generalize hmx : (cells[j] % 2147483647 + 69621 * (n : Int) + 30269) ^ (3 : Int).toNat % 2147483629 = mx
        have x1 : 0 ≤ mx := by rw [← hmx]; exact Int.emod_nonneg _ (by decide)
        have x2 : mx < 2147483629 := by rw [← hmx]; exact Int.emod_lt_of_pos _ (by decide)
        have nn : (6007 * (n : Int)) * (n : Int) ≤ 6007000000 * 1000000 := by
          have a1 : 6007 * (n : Int) ≤ 6007000000 := by omega
          exact Int.le_trans (Int.mul_le_mul_of_nonneg_right a1 (by omega)) (Int.mul_le_mul_of_nonneg_left (by omega) (by decide))
        have nn0 : 0 ≤ (6007 * (n : Int)) * (n : Int) := Int.mul_nonneg (by omega) (by omega)
        refine ⟨.int mx, rfl, .int (n : Int), rfl, 6007, (n : Int), rfl, rfl, .inl ⟨by decide, by decide⟩, .int (n : Int), rfl, _, (n : Int), rfl, rfl, .inr ⟨by omega, by omega⟩, mx, _, rfl, rfl, _, 17, rfl, rfl, _, 3, rfl, rfl, ⟨by decide, by decide, ?_⟩, _, 2147483587, rfl, rfl, (by show (0 : Int) < 2147483587; decide), ?_⟩
        · generalize (6007 * (n : Int)) * (n : Int) = y at nn nn0 ⊢
          omega
        · dsimp only
          generalize (mx + 6007 * (n : Int) * (n : Int) + 17) ^ (3 : Int).toNat % 2147483587 = my
          refine ⟨.int my, rfl, my, 2147483423, rfl, rfl, .inr ⟨by decide, by decide⟩, .int mx, rfl, _, mx, rfl, rfl, _, 4611686018427387847, rfl, rfl, (by show (0 : Int) < 4611686018427387847; decide), .int lim, rfl, _, lim, rfl, rfl, l0, ?_⟩
          exact q _ _ b1 ⟨cells, rests, n + 1, by rw [ha1]; rfl, hc1, hr1, nac, nar, ncr, lc0, lc1, lr, by omega⟩ (Int.emod_nonneg _ (by omega)) (Int.emod_lt_of_pos _ l0)
end
end K14
namespace K14
open PySem PySem.Spec PyProof.Rows L2 Pr
def nPanel : List Str := ["_law_drawn", "_law_most", "_law_n", "_law_share", "_law_found", "_law_button", "_law_others", "_law_other"]
theorem scPanel : FnScope nPanel ["_law_drawn", "_law_most"] (defScope sPanel) := ⟨rfl, rfl, rfl, by decide +kernel, rfl, by decide +kernel, by decide +kernel⟩
theorem sub_snoc {acc os : List Int} {k : Nat} {z : Int} (h : acc.Sublist (os.take k)) (hz : os[k]? = some z) : (acc ++ [z]).Sublist (os.take (k + 1)) := by
  rw [List.take_add_one, hz]
  exact h.append (List.Sublist.refl _)
theorem sub_skip {acc os : List Int} {k : Nat} (h : acc.Sublist (os.take k)) : acc.Sublist (os.take (k + 1)) := by
  rw [List.take_add_one]
  exact h.trans (List.sublist_append_left _ _)
section
variable {P : Program} {w : World} {K : PySem.W.Frag} {mg : Str → Option Value} {base : Heap}
def spPanel : Sp := fun vs H Q _ => ∃ (a c r : Addr) (m : Nat) (most : Int), vs = [.ref a, .int most] ∧ Dk3 H a c r (m + 200) ∧ 1 ≤ most ∧ most ≤ 10 ∧
  ∀ H' p pan, But a r H H' → Dk3 H' a c r m → PanAt H' p pan → Good pan → (pan.length : Int) ≤ most → Q (.ref p) H'
theorem ok_panel {f fD : Addr} {fd fdD : FuncData} {k : Nat} (F : Fun K "_law_panel" "_law_panel" sPanel f fd) (FD : Fun K "_law_next" "_law_next" sNext fD fdD) (bD : Binds K fdD ["_law_drawn", "_law_many"] []) (gD : mg "_law_next" = some (.ref fD))
    (ml : mg "len" = none) (mr : mg "range" = none) (mt : mg "tuple" = none) (mi : mg "int" = none) : FnOk P w K mg base CX0 (k + 2) f fd ["_law_drawn", "_law_most"] spPanel := by
  have GD : FnOk P w K mg base CX0 (k + 1) fD fdD ["_law_drawn", "_law_many"] spNext := ok_next FD ml
  refine F.ok scPanel (fun vs H Q E h => ?_) (fun cdv A outer s H vs Q E hr h => ?_)
  · obtain ⟨a, c, r, m, most, rfl, _⟩ := h
    rfl
  · obtain ⟨a, c, r, m, most, rfl, hD, m1, m2, q⟩ := h
    refine ⟨_, pss_cons (ps_set (i := 2) scPanel.nd rfl (.inl rfl) (pe_ix ix_list (pe_lst (pa_cons (pe_op op_add pe_int (pe_call GD hr (by rfl) gD FD.kp bD .nil pass0 (pa_cons (pv 0) (pa_cons (pv 1) pa_nil)))) (pa_cons (pv 1) pa_nil)))
          (pe_callTy call_int1 (by rfl) mi (by decide +kernel) (pa_cons (pe_cmpR op_eq (pe_call GD hr (by rfl) gD FD.kp bD .nil pass0 (pa_cons (pv 0) (pa_cons pe_int pa_nil))) pe_int (nomark _)) pa_nil)) (fun _ _ => rfl)))
      (pss_cons (ps_asg (pe_tup (pa_cons (pe_call GD hr (by rfl) gD FD.kp bD .nil pass0 (pa_cons (pv 0) (pa_cons pe_int pa_nil))) (pa_cons (pe_lst pa_nil) pa_nil)))
        (pg_tup rfl (pgs_cons (pg_name (i := 3) scPanel.nd rfl (.inr rfl)) (pgs_cons (pg_name (i := 4) scPanel.nd rfl (.inl rfl)) pgs_nil))))
      (pss_cons (ps_for PassesOwn.never rfl (pi_range1 (by rfl) mr (pa_cons (pv 2) pa_nil)) (pg_name (i := 5) scPanel.nd rfl (.inr rfl))
        (pss_cons (ps_setLc (i := 6) (own := [("_law_other", 7)]) (g := gName 7) rfl scPanel.nd rfl rfl (sw_true rfl rfl rfl (by decide +kernel)) (pi_range1 (by rfl) mr (pa_cons (pv 2) pa_nil))
            (blkOk_by (own := [("_law_other", 7)]) (N := nPanel) (sc := defScope sPanel) (by decide +kernel)) (fun _ _ _ _ _ => pg_name (i := 7) scPanel.nd rfl (Or.inl rfl))
            (fun _ _ _ _ _ => pts_one (pt_cmpR op_ne (pv 7) (pv 5) (nomark _))) (fun _ _ _ _ _ => pv 7))
        (pss_one (ps_expr (pe_bm PySem.F.plainAttrs_list PySem.F.slot_list_append PySem.F.type_list_append mt_append (pv 4) (pa_cons (pe_callTy call_tupF (by rfl) mt (by decide +kernel) (pa_cons
            (pe_lc (own := [("_law_other", 7)]) (g := gName 7) rfl scPanel.nd (pi_list (pv 6))
              (blkOk_by (own := [("_law_other", 7)]) (N := nPanel) (sc := defScope sPanel) (by decide +kernel)) (fun _ _ _ _ _ => pg_name (i := 7) scPanel.nd rfl (Or.inl rfl))
              (fun _ _ _ _ _ => pts_one (pt_cmpR op_lt (pe_call GD hr (by rfl) gD FD.kp bD .nil pass0 (pa_cons (pv 0) (pa_cons pe_int pa_nil))) (pv 3) (nomark _)))
              (fun _ _ _ _ _ => pv 7)) pa_nil)) pa_nil))))))
      (pss_one (ps_ret (pe_callTy call_tupF (by rfl) mt (by decide +kernel) (pa_cons (pv 4) pa_nil)))))), ?_⟩
    refine ⟨.ref a, rfl, .int most, rfl, a, c, r, m + 199, most, rfl, hD.less (by omega), by omega, by omega, fun H1 r1 b1 D1 r1a r1b => ?_⟩
    refine ⟨1, r1, rfl, rfl, .int most, rfl, by show 2 ≤ sizeLine; decide, fun L nL => ?_⟩
    have sL : Same H1 (upd H1 L (.lst [.int (1 + r1), .int most])) := same_new nL
    refine ⟨.ref a, rfl, a, c, r, m + 198, 4, rfl, D1.same sL, by decide, by decide, fun H2 r2 b2 D2 r2a r2b => ?_⟩
    have hL : H2 L = some (.lst [.int (1 + r1), .int most]) := b2 _ _ (D1.fresh nL).1 (D1.fresh nL).2.1 upd_same
    obtain ⟨n, hn, n1, n2⟩ : ∃ n : Int, atI [V.int (1 + r1), V.int most] (if decide (V.int r2 = V.int 0) = true then 1 else 0) = some (.int n) ∧ 1 ≤ n ∧ n ≤ most := by
      split
      · exact ⟨most, rfl, m1, Int.le_refl _⟩
      · exact ⟨1 + r1, rfl, by omega, by omega⟩
    refine ⟨rfl, .inr ⟨_, rfl, L, _, _, .int n, rfl, rfl, .inl (.inl hL), hn, ?_⟩⟩
    refine ⟨.ref a, rfl, a, c, r, m + 197, 6, rfl, D2, by decide, by decide, fun H3 y b3 D3 y0 y5 => ?_⟩
    refine ⟨Nat.zero_le _, fun F nF => ?_⟩
    have sF : Same H3 (upd H3 F (.lst [])) := same_new nF
    refine ⟨by show 2 ≤ sizeLine; decide, fun T nT => ⟨T, _, rfl, .inl (.inl upd_same), rfl, _, _, rfl, _, _, rfl, rfl, ?_⟩⟩
    have b13 : But a r H H3 := ((b1.trans (But.of sL)).trans b2).trans b3
    have FD' := D3.fresh nF
    have hnF : H F = none := b13.free FD'.1 FD'.2.1 nF
    refine gen_heap (fun H4 => But a r H H4 ∧ Dk3 H4 a c r (m + 197) ∧ H4 F = some (.lst [])) ⟨(b13.trans (But.of sF)).trans (But.of (same_new nT)), (D3.same sF).same (same_new nT), (same_new nT) _ _ upd_same⟩ fun H4 ⟨b4, D4, eF4⟩ => ?_
    obtain ⟨nn, rfl⟩ : ∃ nn : Nat, n = (nn : Int) := ⟨n.toNat, (Int.toNat_of_nonneg (by omega)).symm⟩
    refine ⟨_, rfl, _, rfl, by omega, by omega, ?_⟩
    refine for_range (n := nn) (fun i σ H5 => But a r H H5 ∧ Dk3 H5 a c r (m + 10 * (10 - i)) ∧ i ≤ nn ∧
        (∃ (qs : List Addr) (pan : List (List Int)), H5 F = some (.lst (qs.map V.ref)) ∧ Paired (fun q l => FT H5 q (l.map V.int)) qs pan ∧ pan.length = i ∧
          ∀ (j : Nat) (l : List Int), pan[j]? = some l → l.Pairwise (· < ·) ∧ ∀ x ∈ l, 0 ≤ x ∧ x < (nn : Int) ∧ x ≠ (j : Int)) ∧
        ∃ x5 x6 x7, σ = [some (.ref a), some (.int most), some (.int (nn : Int)), some (.int y), some (.ref F), x5, x6, x7]) ?_ ?_ ?_
    · exact ⟨b4, D4.less (by omega), Nat.zero_le _, ⟨[], [], eF4, .nil, rfl, fun j l h => by simp at h⟩, none, none, none, rfl⟩
    · intro i σ H5 hi hP
      obtain ⟨b5, D5, _, ⟨qs, pan, hF, hqs, hpl, hpan⟩, x5, x6, x7, rfl⟩ := hP
      -- others
      refine ⟨_, rfl, _, rfl, by omega, by omega, fun O nO => ?_⟩
      refine lc_range (n := nn) (fun k H6 => Same H5 H6 ∧ ∃ acc : List Int, H6 O = some (.lst (acc.map V.int)) ∧ acc.length ≤ k ∧ acc.Pairwise (· < ·) ∧ ∀ x ∈ acc, 0 ≤ x ∧ x < (k : Int) ∧ x ≠ (i : Int))
        ⟨same_new nO, [], upd_same, Nat.le_refl _, List.Pairwise.nil, fun x h => by cases h⟩ (fun k H6 hk hP => ?_) (fun H6 hP => ?_)
      · obtain ⟨s6, acc, eO, al, ap, am⟩ := hP
        have am' : ∀ x ∈ acc, 0 ≤ x ∧ x < ((k + 1 : Nat) : Int) ∧ x ≠ (i : Int) := fun x hx => by have := am x hx; omega
        refine ⟨rfl, .int (0 + (k : Int)), rfl, .int (0 + (i : Int)), rfl, rfl, _, rfl, ite2 (fun e => ?_) (fun e => ?_)⟩
        · have hne : (k : Int) ≠ (i : Int) := fun z => by
            rw [show (0 + (k : Int)) = (0 + (i : Int)) by omega] at e
            simp at e
          refine ⟨_, rfl, acc.map V.int, eO, by rw [List.length_map]; exact small1000 (by omega), ?_, acc ++ [0 + (k : Int)], ?_, by rw [List.length_append]; show acc.length + 1 ≤ k + 1; omega, ?_, ?_⟩
          · intro b o e
            rw [upd_ne (ne_of_none e nO)]
            exact s6 _ _ e
          · rw [upd_same, List.map_append]; rfl
          · rw [List.pairwise_append]
            refine ⟨ap, List.pairwise_singleton _ _, fun x hx z hz => ?_⟩
            have := am x hx
            rw [List.mem_singleton.mp hz]; omega
          · intro x hx
            rcases List.mem_append.mp hx with h | h
            · exact am' x h
            · rw [List.mem_singleton.mp h]; omega
        · exact ⟨s6, acc, eO, by omega, ap, am'⟩
      · obtain ⟨s6, os, eO, ol, op, om⟩ := hP
        have D6 := D5.same s6
        have oO := D5.fresh nO
        have olen : os.length ≤ 10 := by omega
        have hF6 := s6 _ _ hF
        -- kept
        refine ⟨.ref F, rfl, .inl ⟨rfl, _, .inl (.inl hF6)⟩, .ref O, rfl, O, rfl, ⟨_, .inl (.inl eO)⟩, fun T2 nT2 => ?_⟩
        have oT := D6.fresh nT2
        refine lc_list (xs := os.map V.int) (fun k H7 => But a r H6 H7 ∧ Dk3 H7 a c r (m + 10 * (10 - i) - k) ∧ ∃ acc : List Int, H7 T2 = some (.lst (acc.map V.int)) ∧ acc.Sublist (os.take k))
          ⟨But.of (same_new nT2), (D6.same (same_new nT2)).less (by omega), [], upd_same, List.nil_sublist _⟩ (fun k H7 _ hP => .inl (.inl (hP.1 _ _ oO.1 oO.2.1 eO))) (fun k x H7 hx hP => ?_) (fun H7 hP => ?_)
        · obtain ⟨b7, D7, acc, eT, as⟩ := hP
          obtain ⟨z, hz, rfl⟩ := int_get hx
          have hk : k < os.length := (List.getElem?_eq_some_iff.mp hz).1
          refine ⟨rfl, .ref a, rfl, a, c, r, m + 10 * (10 - i) - (k + 1), 5, rfl,
            D7.less (by omega), by decide, by decide, fun H8 r' b8 D8 r0 r1 => ⟨.int y, rfl, _, _, rfl, rfl, _, rfl, ite2 (fun e => ?_) (fun e => ?_)⟩⟩
          all_goals
            have eT8 : H8 T2 = some (.lst (acc.map V.int)) := b8 _ _ oT.1 oT.2.1 eT
          · refine ⟨_, rfl, acc.map V.int, eT8, ?_, ?_, ?_, acc ++ [z], ?_, sub_snoc as hz⟩
            · have := as.length_le
              rw [List.length_take] at this
              rw [List.length_map]; exact small1000 (by omega)
            · intro b o h1 h2 e
              rw [upd_ne (ne_of_none e nT2)]
              exact b8 _ _ h1 h2 (b7 _ _ h1 h2 e)
            · exact D8.upd oT
            · rw [upd_same, List.map_append]; rfl
          · exact ⟨b7.trans b8, D8, acc, eT8, sub_skip as⟩
        · obtain ⟨b7, D7, kp, eT, as⟩ := hP
          rw [List.length_map] at D7
          rw [List.length_map, List.take_length] at as
          have b57 : But a r H5 H7 := (But.of s6).trans b7
          have eF7 := b57 _ _ FD'.1 FD'.2.1 hF
          have ft7 : Paired (fun q l => FT H7 q (l.map V.int)) qs pan := hqs.mono fun q l h => h.but3 D5 b57
          have few : qs.length ≤ 100 := by rw [hqs.length, hpl]; omega
          refine ⟨T2, _, rfl, .inl (.inl eT), fun p o np ho => ?_⟩
          have sp : Same H7 (upd H7 p (.frz o (.tup (kp.map V.int)))) := same_new np
          have pF : p ≠ F := Ne.symm (ne_of_none eF7 np)
          refine ⟨F, _, .ref p, rfl, rfl, sp _ _ eF7, by rw [List.length_map]; exact small1000 (by omega), ?_⟩
          have keep : ∀ b o', b ≠ F → H7 b = some o' → (upd (upd H7 p (.frz o (.tup (kp.map V.int)))) F (.lst (qs.map V.ref ++ [.ref p]))) b = some o' := fun b o' hb e => by
            rw [upd_ne hb]; exact sp _ _ e
          have ftk : ∀ q xs, FT H7 q xs → FT (upd (upd H7 p (.frz o (.tup (kp.map V.int)))) F (.lst (qs.map V.ref ++ [.ref p]))) q xs := fun q xs ⟨oq, e, z⟩ => ⟨oq, keep q _ (ne_of e eF7 (by intro z; cases z)) e, z⟩
          refine ⟨fun b o' h1 h2 e => keep b o' (ne_of_none e hnF) (b57 b o' h1 h2 (b5 b o' h1 h2 e)), ((D7.same sp).upd ⟨FD'.1, FD'.2.1, FD'.2.2⟩).less (by omega), hi, ⟨qs ++ [p], pan ++ [kp], by rw [upd_same, List.map_append]; rfl, ?_, by rw [List.length_append, hpl]; rfl, fun j l' hj => ?_⟩, _, _, _, rfl⟩
          · refine Paired.snoc (ft7.mono fun q l h => ftk q _ h) ⟨o, ?_, ho⟩
            rw [upd_ne pF, upd_same]
          · by_cases hji : j < i
            · rw [List.getElem?_append_left (by omega)] at hj
              exact hpan j l' hj
            · rw [List.getElem?_append_right (by omega), hpl] at hj
              obtain rfl : j = i := by
                have := (List.getElem?_eq_some_iff.mp hj).1
                rw [List.length_singleton] at this; omega
              rw [Nat.sub_self] at hj
              obtain rfl : kp = l' := by simpa using hj
              exact ⟨op.sublist as, fun x hx => om x (as.subset hx)⟩
    · intro σ H5 hP
      obtain ⟨b5, D5, _, ⟨qs, pan, hF, hqs, hpl, hpan⟩, x5, x6, x7, rfl⟩ := hP
      refine ⟨.ref F, rfl, F, _, rfl, .inl (.inl hF), fun l o nl ho => ?_⟩
      have sl : Same H5 (upd H5 l (.frz o (.tup (qs.map V.ref)))) := same_new nl
      refine q _ l pan (b5.trans (But.of sl)) ((D5.same sl).less (by omega)) ⟨qs, ⟨o, upd_same, ho⟩, hqs.mono fun _ _ z => z.same sl⟩ ?_ (by omega)
      have hnn : (pan.length : Int) = (nn : Int) := by omega
      refine ⟨by omega, by omega, fun l hl => ?_, fun l hl => ?_, fun j l hl h => ?_⟩
      · obtain ⟨j, hj⟩ := List.getElem?_of_mem hl
        exact (hpan j l hj).1
      · obtain ⟨j, hj⟩ := List.getElem?_of_mem hl
        intro x hx
        have := (hpan j l hj).2 x hx
        exact ⟨this.1, by omega⟩
      · exact ((hpan j l hl).2 _ h).2.2 rfl

end
end K14
namespace K14
open PySem PySem.Spec PyProof.Rows L2 Pr
def nRow : List Str := ["_law_drawn", "_law_n", "_law_most", "_law_press"]
theorem scRow : FnScope nRow ["_law_drawn", "_law_n", "_law_most"] (defScope sRow) := ⟨rfl, rfl, rfl, by decide +kernel, rfl, by decide +kernel, by decide +kernel⟩
section
variable {P : Program} {w : World} {K : PySem.W.Frag} {mg : Str → Option Value} {base : Heap}
def spRow : Sp := fun vs H Q _ => ∃ (a c r : Addr) (m : Nat) (n most : Int), vs = [.ref a, .int n, .int most] ∧ Dk3 H a c r (m + 61) ∧ 1 ≤ n ∧ n < 1000000 ∧ 0 ≤ most ∧ most ≤ 60 ∧
  ∀ (H' : Hp) (t : Addr) (row : List Int), But a r H H' → Dk3 H' a c r m → FT H' t (row.map V.int) → (∀ x ∈ row, 0 ≤ x ∧ x < n) → (row.length : Int) ≤ most → Q (.ref t) H'
theorem ok_row {f fD : Addr} {fd fdD : FuncData} {k : Nat} (F : Fun K "_law_row" "_law_row" sRow f fd) (FD : Fun K "_law_next" "_law_next" sNext fD fdD) (bD : Binds K fdD ["_law_drawn", "_law_many"] []) (gD : mg "_law_next" = some (.ref fD))
    (ml : mg "len" = none) (mr : mg "range" = none) (mt : mg "tuple" = none) : FnOk P w K mg base CX0 (k + 2) f fd ["_law_drawn", "_law_n", "_law_most"] spRow := by
  have GD : FnOk P w K mg base CX0 (k + 1) fD fdD ["_law_drawn", "_law_many"] spNext := ok_next FD ml
  refine F.ok scRow (fun vs H Q E h => ?_) (fun cdv A outer s H vs Q E hr h => ?_)
  · obtain ⟨a, c, r, m, n, most, rfl, _⟩ := h
    rfl
  · obtain ⟨a, c, r, m, n, most, rfl, hD, n1, n2, m1, m2, q⟩ := h
    refine ⟨_, pss_one (ps_ret (pe_callTy call_tupF (by rfl) mt (by decide +kernel) (pa_cons
        (pe_lc (own := [("_law_press", 3)]) (g := gName 3) (tt := tYes) rfl scRow.nd (pi_range1 (by rfl) mr (pa_cons (pe_call GD hr (by rfl) gD FD.kp bD .nil pass0 (pa_cons (pv 0) (pa_cons (pe_op op_add (pv 2) pe_int) pa_nil))) pa_nil))
          (blkOk_by (own := [("_law_press", 3)]) (N := nRow) (sc := defScope sRow) (by decide +kernel)) (fun _ _ _ _ _ => pg_name (i := 3) scRow.nd rfl (Or.inl rfl)) (fun _ _ _ _ _ => pts_nil)
          (fun _ _ _ _ _ => pe_call GD hr (by rfl) gD FD.kp bD .nil pass0 (pa_cons (pv 0) (pa_cons (pv 1) pa_nil)))) pa_nil))), ?_⟩
    refine ⟨.ref a, rfl, .int most, rfl, most, 1, rfl, rfl, a, c, r, m + 60, most + 1, rfl, hD, by omega, by omega, fun H1 y b1 D1 y0 y1 => ?_⟩
    obtain ⟨yn, rfl⟩ : ∃ yn : Nat, y = (yn : Int) := ⟨y.toNat, (Int.toNat_of_nonneg y0).symm⟩
    refine ⟨_, rfl, by omega, by omega, fun D nD => ?_⟩
    have oD := D1.fresh nD
    refine lc_range (n := yn) (fun i H2 => But a r H1 H2 ∧ Dk3 H2 a c r (m + 60 - i) ∧ ∃ acc : List Int, H2 D = some (.lst (acc.map V.int)) ∧ acc.length = i ∧ ∀ x ∈ acc, 0 ≤ x ∧ x < n)
      ⟨But.of (same_new nD), (D1.same (same_new nD)).less (by omega), [], upd_same, rfl, fun x h => by cases h⟩ (fun i H2 hi hP => ?_) (fun H2 hP => ?_)
    · obtain ⟨b2, D2, acc, eD, al, am⟩ := hP
      refine ⟨rfl, tyes (iteT ⟨.ref a, rfl, .int n, rfl, a, c, r, m + 60 - (i + 1), n, rfl, D2.less (by omega), by omega, n2, fun H3 z b3 D3 z0 z1 => ⟨acc.map V.int, b3 _ _ oD.1 oD.2.1 eD, ?_, ?_, D3.upd oD, acc ++ [z], ?_, ?_, ?_⟩⟩)⟩
      · rw [List.length_map]; exact small1000 (by omega)
      · intro b o h1 h2 e
        rw [upd_ne (ne_of_none e nD)]
        exact b3 _ _ h1 h2 (b2 _ _ h1 h2 e)
      · rw [upd_same, List.map_append]; rfl
      · rw [List.length_append, al]; rfl
      · intro x hx
        rcases List.mem_append.mp hx with h | h
        · exact am x h
        · rw [List.mem_singleton.mp h]; exact ⟨z0, z1⟩
    · obtain ⟨b2, D2, acc, eD, al, am⟩ := hP
      refine ⟨D, _, rfl, .inl (.inl eD), fun t o nt ho => ?_⟩
      exact q _ t acc ((b1.trans b2).trans (But.of (same_new nt))) ((D2.same (same_new nt)).less (by omega)) ⟨o, upd_same, ho⟩ am (by omega)
end
end K14
/-! A panel that is read, however its tuples stand. -/
namespace Pr
open PySem PySem.Spec PyProof.Rows L2
def PanT (K : PySem.W.Frag) (H : Hp) (p : Addr) (pan : List (List Int)) : Prop := ∃ qs : List Addr, SqT K H p (qs.map V.ref) ∧ Paired (fun q l => SqT K H q (l.map V.int)) qs pan
section
variable {K : PySem.W.Frag} {H H' : Hp} {p : Addr} {pan : List (List Int)}
theorem PanT.same (e : Same H H') (h : PanT K H p pan) : PanT K H' p pan :=
  let ⟨qs, h1, h2⟩ := h; ⟨qs, same_sqT e h1, h2.mono fun _ _ x => same_sqT e x⟩
theorem PanAt.t (h : PanAt H p pan) : PanT K H p pan :=
  let ⟨qs, h1, h2⟩ := h; ⟨qs, h1.sq, h2.mono fun _ _ x => x.sq⟩
theorem panT_at (h : PanT K H p pan) {b : Int} (h0 : 0 ≤ b) (h1 : b < (pan.length : Int)) :
    ∃ (qs : List Addr) (q : Addr), SqT K H p (qs.map V.ref) ∧ atI (qs.map V.ref) b = some (.ref q) ∧ SqT K H q ((pan.getD b.toNat []).map V.int) ∧ qs.length = pan.length := by
  obtain ⟨qs, hq, hqs⟩ := h
  obtain ⟨n, rfl⟩ : ∃ n : Nat, b = (n : Int) := ⟨b.toNat, (Int.toNat_of_nonneg h0).symm⟩
  have hn : n < pan.length := by omega
  obtain ⟨q', g1, g2⟩ := paired_get hqs n pan[n] (List.getElem?_eq_getElem hn)
  refine ⟨qs, q', hq, atI_nat (by rw [List.getElem?_map, g1]; rfl), ?_, hqs.length⟩
  rw [Int.toNat_natCast, List.getD_eq_getElem?_getD, List.getElem?_eq_getElem hn]
  exact g2
theorem PanT.len (h : PanT K H p pan) : ∃ xs : List V, SqT K H p xs ∧ xs.length = pan.length :=
  let ⟨qs, h1, h2⟩ := h; ⟨_, h1, by rw [List.length_map, h2.length]⟩
theorem dpAll_panT : ∀ {qs : List Addr} {pan : List (List Int)}, Paired (fun q l => SqT K H q (l.map V.int)) qs pan → DpAll K H (qs.map V.ref) (pan.map dInts)
  | _, _, .nil => .nil
  | _, _, .cons r t => .cons (dp_ints r) (dpAll_panT t)
theorem PanT.dp (h : PanT K H p pan) : Dp K H (.ref p) (dPan pan) := let ⟨_, h1, h2⟩ := h; .tup h1 (dpAll_panT h2)
end
theorem Good.rng' {pan : List (List Int)} (g : Good pan) {b x : Int} (hx : x ∈ pan.getD b.toNat []) : 0 ≤ x ∧ x < (pan.length : Int) := by
  by_cases h : b.toNat < pan.length
  · rw [List.getD_eq_getElem?_getD, List.getElem?_eq_getElem h] at hx
    exact g.rng _ (List.getElem_mem h) x hx
  · rw [List.getD_eq_getElem?_getD, List.getElem?_eq_none (by omega)] at hx
    cases hx
/-- one button -/
theorem good_one : Good [[]] := by
  refine ⟨by decide, by decide, fun l h => ?_, fun l h x hx => ?_, fun i l h hx => ?_⟩
  · rw [List.mem_singleton.mp h]; exact List.Pairwise.nil
  · rw [List.mem_singleton.mp h] at hx; cases hx
  · have : l = [] := by
      match i, h with
      | 0, h => exact (Option.some.inj h).symm
    rw [this] at hx; cases hx
/-! ### what a row meets -/
def metB (pan : List (List Int)) (row : List Int) (c : Int) : Prop := c ∈ row ∨ ∃ b ∈ row, c ∈ pan.getD b.toNat []
theorem words_same {pan : List (List Int)} {c : Int} : ∀ (row : List Int) (w : Str), row.foldl (wordM pan c) w = wSame ↔ w = wSame ∧ ¬ metB pan row c
  | [], w => by
    refine ⟨fun h => ⟨h, fun z => z.elim (fun q => by cases q) fun ⟨_, q, _⟩ => by cases q⟩, fun h => h.1⟩
  | b :: r, w => by
    rw [List.foldl_cons, words_same r]
    unfold wordM metB
    by_cases h1 : b = c
    · rw [if_pos h1]
      refine ⟨fun h => absurd h.1.symm same_ne_on, fun h => absurd ?_ h.2⟩
      exact .inl (by rw [h1]; exact List.mem_cons_self)
    · rw [if_neg h1]
      by_cases h2 : c ∈ pan.getD b.toNat []
      · rw [if_pos h2]
        refine ⟨fun h => absurd h.1.symm same_ne_off, fun h => absurd ?_ h.2⟩
        exact .inr ⟨b, List.mem_cons_self, h2⟩
      · rw [if_neg h2]
        refine and_congr_right fun _ => not_congr ⟨fun h => ?_, fun h => ?_⟩
        · rcases h with h | ⟨d, h3, h4⟩
          · exact .inl (List.mem_cons_of_mem _ h)
          · exact .inr ⟨d, List.mem_cons_of_mem _ h3, h4⟩
        · rcases h with h | ⟨d, h3, h4⟩
          · exact .inl ((List.mem_cons.mp h).resolve_left (Ne.symm h1))
          · rcases List.mem_cons.mp h3 with e | e
            · subst e; exact absurd h4 h2
            · exact .inr ⟨d, e, h4⟩
theorem same_mem_eff {pan : List (List Int)} {row : List Int} : wSame ∈ effM pan row ↔ ∃ c : Nat, c < pan.length ∧ ¬ metB pan row (c : Int) := by
  unfold effM
  rw [List.mem_map]
  constructor
  · rintro ⟨c, hc, e⟩
    exact ⟨c, List.mem_range.mp hc, ((words_same row wSame).mp e).2⟩
  · rintro ⟨c, hc, h⟩
    exact ⟨c, List.mem_range.mpr hc, (words_same row wSame).mpr ⟨rfl, h⟩⟩
theorem asc_full {n : Nat} {ms : List Int} (h : Asc n ms) : ms.length = n ↔ ∀ c : Nat, c < n → (c : Int) ∈ ms := by
  have e := h.eq
  constructor
  · intro hl c hc
    have h1 : ((intL n).filter (fun x => decide (x ∈ ms))).length = (intL n).length := by rw [e, hl, intL_len]
    have := List.length_filter_eq_length_iff.mp h1 (c : Int) (mem_intL.mpr ⟨by omega, by omega⟩)
    exact of_decide_eq_true this
  · intro hc
    rw [← e, List.length_filter_eq_length_iff.mpr, intL_len]
    intro x hx
    have := mem_intL.mp hx
    have h2 := hc x.toNat (by omega)
    rw [Int.toNat_of_nonneg this.1] at h2
    exact decide_eq_true h2
theorem inV_strs {b : Str} (l : List Str) : inV (.str b) (l.map V.str) = decide (b ∈ l) := by
  unfold inV
  rw [List.any_map, Bool.eq_iff_iff, List.any_eq_true, decide_eq_true_eq]
  constructor
  · rintro ⟨x, hx, e⟩
    have e' : x = b := by simpa [eqV] using e
    rw [← e']; exact hx
  · intro h
    exact ⟨b, h, by simp [eqV]⟩
end Pr
/-! sorted(list of tuples of ints) where the first of the list is the empty tuple. -/
namespace Pr
open PySem PySem.Spec PyProof.Rows L2 PySem.W
/-- v is a tuple that holds these numbers -/
def IsTI (h : Heap) (v : Value) (ns : List Int) : Prop :=
  ∃ (a : Addr) (dd : Option Addr) (items : Array Value) (n : Nat) (sl : Array (Option Value)), v = .ref a ∧ h.get? a = some { cls := .type "tuple", dict := dd, data := .seq items n, slots := sl } ∧ IntsAre items.toList ns
theorem IsTI.keeps {h h' : Heap} {v : Value} {ns : List Int} (x : IsTI h v ns) (k : ∀ b o, v = .ref b → h.get? b = some o → h'.get? b = some o) : IsTI h' v ns := by
  obtain ⟨a, dd, items, n, sl, e, g, i⟩ := x
  exact ⟨a, dd, items, n, sl, e, k _ _ e g, i⟩
theorem IsTI.type {M : Model} {h : Heap} {v : Value} {ns : List Int} (x : IsTI h v ns) : Looks M h (typeOf v) (.type "tuple") := by
  obtain ⟨a, dd, items, n, sl, rfl, g, i⟩ := x
  exact (Looks.ld g).andThen .now
section
variable {prog : Program} {w : World} {A : Around} {E : Value → Shared → Prop} {s : Shared}
theorem call_ltT {a b : Addr} {dd dd2 : Option Addr} {items items2 : Array Value} {n n2 : Nat} {sl sl2 : Array (Option Value)} {ns ms : List Int} {Q : Value → Shared → Prop} (ga : s.heap.get? a = some { cls := .type "tuple", dict := dd, data := .seq items n, slots := sl })
    (gb : s.heap.get? b = some { cls := .type "tuple", dict := dd2, data := .seq items2 n2, slots := sl2 }) (ia : IntsAre items.toList ns) (ib : IntsAre items2.toList ms) (iv : Looks (model prog w) s.heap (isInstance (.ref a) (.type "tuple")) true)
    (iu : ∀ M : Model, Looks M s.heap (isInstance (.ref b) (.type "tuple")) true) (h : Q (.bool (HT.lexLt ns ms)) s) : wpAny (model prog w) A (call (.builtin "tuple.__lt__") [.ref a, .ref b]) Q E s := by
  refine wpAny_call (codeAny_call_builtin PySem.F.slot_tuple_lt.plain PySem.F.entry_tuple_lt (@check_slot (model prog w) _ _ _ "tuple.__lt__" "tuple" "__lt__" (.ref a) [.ref b] [] _ (by decide +kernel) (by decide +kernel) iv (PySem.F.args_tuple_lt_2 _ _) ?_))
  refine wpAny_mono (NtL.nt_lt_ints a b (.type "tuple") (.type "tuple") items items2 n n2 dd dd2 sl sl2 ns ms ia ib prog w _ (wants Q E) s ⟨ga, gb, iu, h⟩) (fun fin s' q => ?_) fun _ _ z => z
  cases fin with
  | done f => exact q
  | again c => exact q
theorem lt_ti {v u : Value} {ns ms : List Int} {Q : Bool → Shared → Prop} (hu : A.units < cLine) (hv : IsTI s.heap v ns) (hw : IsTI s.heap u ms) (h : Q (HT.lexLt ns ms) s) : wpAny (model prog w) A (keyLt' oneType' v u) Q E s := by
  have iu : ∀ M : Model, Looks M s.heap (isInstance u (.type "tuple")) true := fun M => (hw.type (M := M)).andThen (Looks.of_pure (by rfl))
  obtain ⟨a, dd, items, n, sl, rfl, ga, ia⟩ := hv
  obtain ⟨b, dd2, items2, n2, sl2, rfl, gb, ib⟩ := hw
  have iv : Looks (model prog w) s.heap (isInstance (.ref a) (.type "tuple")) true := (Looks.ld ga).andThen (Looks.of_pure (by rfl))
  rw [keyLt'_oneType, oneLt'_eq]
  simp only [if_true]
  refine wpAny_bind (wpAny_cRoomFor hu ?_)
  refine wpAny_bind (wpAny_callSpecialIfBound?_slot (T := "tuple") ⟨_, ga, rfl⟩ PySem.F.slot_tuple_lt (call_ltT ga gb ia ib iv iu ?_))
  exact wpAny_truthy_bool h
/-- the kind of keys: the first one is the empty tuple -/
theorem mapM_by {α β : Type} {M : Model} {f : α → Sem β} (g : α → β) : ∀ (l : List α) {Q : List β → Shared → Prop}, (∀ v ∈ l, ∀ (Q' : β → Shared → Prop), Q' (g v) s → wpAny M A (f v) Q' E s) → Q (l.map g) s → wpAny M A (l.mapM f) Q E s
  | [], _, _, h => by rw [List.mapM_nil]; exact wpAny_pure h
  | x :: l, Q, hf, h => by
    rw [List.mapM_cons]
    exact wpAny_bind (hf x (.head _) _ (wpAny_bind (mapM_by g l (Q := fun bs s' => wpAny M A (pure (g x :: bs)) Q E s') (fun v hv => hf v (.tail _ hv)) (wpAny_pure h))))
def firstIn (h : Heap) (v : Value) : Option Value := match v with
  | .ref a => match h.get? a with
    | some ⟨_, _, .seq its _, _⟩ => its[0]?
    | _ => none
  | _ => none
theorem kind_ti {v₁ v₂ : Value} {rest : List Value} {k : Value → List Int} {Q : SortKind → Shared → Prop} (hv : ∀ v ∈ v₁ :: v₂ :: rest, IsTI s.heap v (k v)) (h1 : k v₁ = []) (h : Q oneType' s) :
    wpAny (model prog w) A (keyKind' (v₁ :: v₂ :: rest).toArray) Q E s := by
  rw [kat_kind_eq, List.mapM_toArray, map_eq_pure_bind]
  have e0 : firstIn s.heap v₁ = none := by
    obtain ⟨a, dd, items, n, sl, e, g, i⟩ := hv v₁ List.mem_cons_self
    rw [h1] at i
    have hi := i.length
    subst e
    unfold firstIn
    simp only [g]
    rw [Array.getElem?_eq_none]
    simpa using hi
  refine wpAny_bind (wpAny_bind (mapM_by (firstIn s.heap) _ (fun v hm Q' hq => ?_) (wpAny_pure ?_)))
  · obtain ⟨a, dd, items, n, sl, e, g, i⟩ := hv v hm
    rw [kas_first_eq]
    refine wpAny_bind ((hv v hm).type.here ?_)
    rw [if_neg (by decide)]
    subst e
    unfold firstIn at hq
    simp only [g] at hq
    exact wpAny_bind (listItems_at g rfl (wpAny_pure hq))
  · rw [if_neg (by simp [e0]), if_neg (by simp [e0])]
    rw [oneTypeOnly'_eq, List.mapM_toArray, map_eq_pure_bind]
    refine wpAny_bind (wpAny_bind (wpAny_bind (kas_mapM (r := Value.type "tuple") _ (fun v hm Q' hq => (hv v hm).type.here hq) (wpAny_pure ?_))))
    have hall : ((List.map (fun _ => Value.type "tuple") (v₁ :: v₂ :: rest)).toArray.all fun x => x == Value.type "tuple") = true := by
      simp only [List.all_toArray, List.all_map, List.all_eq_true]
      intro _ _
      rfl
    have h0 : (List.map (fun _ => Value.type "tuple") (v₁ :: v₂ :: rest)).toArray[0]? = some (Value.type "tuple") := by simp
    rw [h0]
    simp only [hall, if_true]
    exact wpAny_pure (wpAny_pure h)
theorem ti_cmp {vs : List Value} {k : Value → List Int} (hu : A.units < cLine) (hv : ∀ v ∈ vs, IsTI s.heap v (k v)) : SrtO.Cmp prog w A s oneType' (fun p => p.1 ∈ vs) (SrtO.lt2 fun v u => HT.lexLt (k v) (k u)) := by
  intro p q hp hq
  exact lt_ti (Q := fun r s' => s' = s ∧ r = HT.lexLt (k p.1) (k q.1)) (E := fun _ _ => False) hu (hv p.1 hp) (hv q.1 hq) ⟨rfl, rfl⟩
theorem ti_sortable {a : Addr} {vs : List Value} {k : Value → List Int} (h2 : 2 ≤ vs.length) (hu : A.units < cLine) (hv : ∀ v ∈ vs, IsTI s.heap v (k v)) (h1 : (vs.head?.map k) = some []) (ha : ∀ v ∈ vs, v ≠ .ref a) :
    SrtO.SortableO prog w A s a vs fun v u => HT.lexLt (k v) (k u) := by
  intro h' keep
  have hv' : ∀ v ∈ vs, IsTI h' v (k v) := fun v hm => (hv v hm).keeps fun b o e g => keep b o (fun z => ha v hm (by rw [e, z])) g
  refine ⟨oneType', fun Q E hq => ?_, ti_cmp (s := { s with heap := h' }) hu hv'⟩
  match vs, h2, hv', h1 with
  | v₁ :: v₂ :: rest, _, hv', h1 => exact kind_ti (s := { s with heap := h' }) (k := k) hv' (by simpa using h1) hq
end
section
variable {X : Cx}
/-- sorted(xs), xs a list of tuples of ints, the first one () -/
def rSortedTI (K : PySem.W.Frag) : List V → Hp → VK → Prop := fun vs H Q => ∃ (a : Addr) (ts : List Addr) (k : Addr → List Int), vs = [V.ref a] ∧ SqL K H a (ts.map V.ref) ∧ (∀ t ∈ ts, SqT K H t ((k t).map V.int)) ∧ (ts.head?.map k) = some [] ∧
  ∀ (ts' : List Addr) (p : Addr), ts'.Perm ts → ts'.Pairwise (fun p q => HT.lexLt (k q) (k p) = false) → H p = none → Q (.ref p) (upd H p (.lst (ts'.map V.ref)))
theorem cr_sortedTI (hu : X.A.units + 64 < cLine) : CallR X (.builtin "sorted") (rSortedTI X.K) := by
  intro pins s σ H vs us Q I r h
  obtain ⟨a, ts, k, rfl, hs, hx, h0, q⟩ := h
  obtain ⟨its, rv, hl, hz⟩ := I.list hs
  obtain ⟨u, rfl, ru⟩ := vals1 r
  obtain rfl : u = Value.ref a := ru
  have ei := nts_of rv
  have hv : ∀ u ∈ its, IsTI s.heap u (k (adO u)) := fun u hm => by
    rw [ei] at hm
    obtain ⟨t, ht, rfl⟩ := List.mem_map.mp hm
    obtain ⟨its2, r2, ⟨⟨cls, dd, data, sl⟩, ho, hc, n, hd⟩, hz2⟩ := I.tuple (hx t ht)
    simp only at hc hd
    subst hc hd
    exact ⟨t, dd, its2.toArray, n, sl, rfl, ho, (by simpa using ints_of_vals r2 : IntsAre its2.toArray.toList (k t))⟩
  have hh : its.head?.map (fun u => k (adO u)) = some [] := by
    rw [ei]
    cases ts with
    | nil => simp at h0
    | cons t ts => simpa [adO] using h0
  refine SrtO.sorted_ord (NtL.swo_lexL fun u => k (adO u)) hl.isList (by rw [← rv.length]; exact hz) (fun h2 h₁ b hb kk => ti_sortable (s := { s with heap := h₁ }) h2 (by simp only [Around.in1_units]; omega) (fun v hm => (hv v hm).keeps fun c o _ e => (kk c o e).2) hh fun v hm z => ?_) fun out h1 h2 => ?_
  · obtain ⟨c, dd, items, n, sl, e, g, i⟩ := hv v hm
    rw [e] at z
    exact (kk c _ g).1 (Value.ref.inj z)
  · have eo : out = (out.map adO).map Value.ref := ref_map fun u hm => by
      have hm' : u ∈ its := h2.perm.mem_iff.mp hm
      rw [ei] at hm'
      obtain ⟨t, _, e⟩ := List.mem_map.mp hm'
      exact ⟨t, e.symm⟩
    have hp : (out.map adO).Perm ts := by
      have p1 := h2.perm.map adO
      rw [ei, ad_map] at p1
      exact p1
    have hs' : (out.map adO).Pairwise (fun p q => HT.lexLt (k q) (k p) = false) := List.pairwise_map.mpr (h1.imp fun {x y} z => z)
    have hlen : ((out.map adO).map V.ref).length ≤ sizeLine := by
      rw [List.length_map, hp.length_eq]
      rw [List.length_map] at hz
      exact hz
    have rvo : Vals ((out.map adO).map V.ref) out := by
      have z := of_nts (out.map adO)
      rw [← eo] at z
      exact z
    obtain ⟨n, hn⟩ := sortedAll_at s.heap its out.toArray
    exact ⟨.ref (s.heap.objs.size + 1), upd H _ (.lst ((out.map adO).map V.ref)), I.laid (t' := s.toks) (fun b o e => sortedAll_old e) (Nat.le_succ _) ⟨hlen, out, n, rvo, hn⟩, rfl, q _ _ hp hs' (I.hok.fresh (Nat.le_succ _))⟩
end
end Pr
/-! set(list of ints), and how many there are in it. -/
namespace Pr
open PySem PySem.Spec PyProof.Rows L2
section
variable {P : Program} {w : World} {A : Around} {E : Value → Shared → Prop} {s : Shared}
/-- a set just made -/
def set0 (w : World) : Obj := { cls := .type "set", dict := none, data := .set #[] 0 (.fresh 0 0 (!w.params.followText "set-order")) }
/-- a type's call by the codes of its two steps -/
theorem type_by {T nw ini : String} {xs : List Value} {Q Q1 : Value → Shared → Prop} (tc : TypeCalled T nw ini) (ok : checkTypeCall T ⟨xs, []⟩ = pure ())
    (first : codeAny (model P w) A.in1 (.call (.builtin nw) ⟨.type T :: xs, []⟩) (wants Q1 E) s)
    (second : ∀ v t, Q1 v t → t.TypeIs v T ∧ codeAny (model P w) A.in1 (.call (.builtin ini) ⟨v :: xs, []⟩) (wants (fun u t' => u = .none ∧ Q v t') E) t) :
    wpAny (model P w) A (call (.type T) xs) Q E s := by
  have f1 := tc.made; have f2 := tc.sub; have f3 := tc.notType; have f4 := tc.canCreate
  obtain ⟨c0, cs, f5⟩ := tc.mro
  apply wpAny_call; apply codeAny_of_tree
  change wpAny _ _ (callAny (Value.type T) _) _ _ _
  apply wpAny_pure; refine ⟨Code.quiet_builtin _ (by decide +kernel), ?_⟩
  apply codeAny_builtin F.entry_type_call; rw [Around.under_plain (weight_type_call_type T xs []) rfl]
  repeat (any_goals (first | assumption | wp_step))
  apply codeAny_mono first; intro r t hr
  match r, hr with
  | .error e, hr => exact hr
  | .ok .next, hr => exact hr.elim
  | .ok .brk, hr => exact hr.elim
  | .ok .cont, hr => exact hr.elim
  | .ok (.ret v), hr =>
    obtain ⟨hT, hc⟩ := second v t hr
    have f6 := tc.init.lookup; have f7 := tc.init.bind v
    repeat (any_goals (first | assumption | wp_step))
    apply codeAny_mono hc; intro r2 t2 hr2
    match r2, hr2 with
    | .error e, hr2 => exact hr2
    | .ok .next, hr2 => exact hr2.elim
    | .ok .brk, hr2 => exact hr2.elim
    | .ok .cont, hr2 => exact hr2.elim
    | .ok (.ret u), hr2 =>
      obtain ⟨rfl, hq⟩ := hr2
      repeat (any_goals (first | assumption | wp_step))
theorem call_setL {l : Addr} {its : Array Value} (ns : List Int) {Q : Value → Shared → Prop} (hh : A.handled = none) (hl : s.heap.IsList l its) (hi : IntsAre its.toList ns) (hb : ns.length + 1 < scanBound)
    (h : ∀ (h' : Heap) (tk c : Nat), SetR w h' s.heap.objs.size (fun j => decide (j ∈ ns)) c → (∀ b o, s.heap.get? b = some o → h'.get? b = some o) → Q (.ref s.heap.objs.size) { s with heap := h', toks := tk }) :
    wpAny (model P w) A (call (.type "set") [.ref l]) Q E s := by
  have hn : its.size = ns.length := by simpa using hi.length
  refine type_by F.called_set (F.typeCall_set_1 (.ref l)) (Q1 := fun v t => v = .ref s.heap.objs.size ∧ t = { s with heap := s.heap.push (set0 w) }) (code_set_led1 (.ref l) ⟨rfl, rfl⟩) ?_
  rintro obj t ⟨rfl, rfl⟩
  have hS : (s.heap.push (set0 w)).get? s.heap.objs.size = some (set0 w) := Heap.get?_push_size _ rfl
  refine ⟨⟨_, hS, rfl⟩, codeAny_call_builtin F.called_set.init.plain F.entry_set_init (check_set_init_1 ⟨_, hS, rfl⟩ ?_)⟩
  obtain ⟨⟨oc, od, odt, osl⟩, hol, hc, n, hd⟩ := id hl
  simp only at hc hd
  subst hc hd
  have lS : l < s.heap.objs.size := Heap.lt_size hol
  have hL : (s.heap.push (set0 w)).get? l = some { cls := .type "list", dict := od, data := .seq its n, slots := osl } := Heap.get?_push_of_some _ hol
  have hLl : (s.heap.push (set0 w)).IsList l its := ⟨_, hL, rfl, n, rfl⟩
  have k1 := F.sub_list_set
  have k2 := F.sub_list_frozenset
  have k3 : (Value.type "list" == Value.type "dict") = false := by decide
  have hz : (s.heap.push (set0 w)).objs.size = s.heap.objs.size + 1 := Heap.size_push ..
  have hP : s.heap.push (set0 w) = s.heap.push { cls := .type "set", dict := none, data := .set #[] 0 (.fresh 0 0 (!w.params.followText "set-order")) } := rfl
  generalize hG : s.heap.push (set0 w) = G at hS hL hLl hz ⊢
  unfold Builtin.«set.__init__» noKeywords Builtin.Frozenset.updateFrom
  generalize hI : pyIter = PI
  wp_walk
  subst hI
  refine wpAny_pyIter_list hLl (wpAny_bind (wpAny_runValue ?_))
  have at0 : (G.push { cls := .type "list_iterator", data := .fields #[.ref l, .int 0 0] }).get? s.heap.objs.size = some (set0 w) := Heap.get?_push_of_some _ hS
  have out1 : l ≠ G.objs.size := by rw [hz]; exact Nat.ne_of_lt (Nat.lt_succ_of_lt lS)
  have out2 : s.heap.objs.size ∉ [G.objs.size, l] := by
    rw [hz]
    intro q
    rcases List.mem_cons.mp q with e | e
    · exact Nat.ne_of_lt (Nat.lt_succ_self _) e
    · exact Nat.ne_of_lt lS (List.mem_singleton.mp e).symm
  have vals : ∀ (i : Nat) (v : Value), its[i]? = some v → ∃ k t, ns[i]? = some k ∧ v = .int k t := by
    intro i v hv
    have li : i < ns.length := hn ▸ (Array.getElem?_eq_some_iff.mp hv).1
    obtain ⟨t, e⟩ := hi.int_at i v (by rw [Array.getElem?_toList]; exact hv)
    rw [List.getD_eq_getElem?_getD, List.getElem?_eq_getElem li] at e
    exact ⟨ns[i], t, List.getElem?_eq_getElem li, e⟩
  have hh' : A.in1.in1.in1.handled = none := by simp [hh]
  refine set_update_ints (Walks.list hh' G.objs.size l out1 its).toS s.heap.objs.size out2 ns hn hb vals its.size 0 _ (Nat.sub_zero _) (Nat.zero_le _) ⟨⟨_, Heap.get?_push_size _ rfl, rfl, rfl⟩, hLl.push _⟩ ⟨0, Nat.le_refl _, setR_new_at at0⟩ ?_
  intro t' c mv _ R
  obtain ⟨h2, g2, d2, tk2, os2⟩ := t'
  obtain rfl : g2 = s.gens := mv.gens
  obtain rfl : d2 = s.drawn := mv.drawn
  obtain rfl : os2 = s.os := mv.os
  refine wpAny_pure (wpAny_pure ⟨rfl, h h2 tk2 c R fun b o e => ?_⟩)
  have lb : b < s.heap.objs.size := Heap.lt_size e
  refine mv.heap b o (fun q => ?_) (Heap.get?_push_of_some _ (by rw [← hG]; exact Heap.get?_push_of_some _ e))
  rcases List.mem_cons.mp q with e | e
  · exact Nat.ne_of_lt lb e
  · exact Nat.ne_of_lt (Nat.lt_succ_of_lt lb) ((List.mem_singleton.mp e).trans hz)
end
theorem nodup_few : ∀ (m : Nat) (l : List Int), l.Nodup → (∀ x ∈ l, 0 ≤ x ∧ x < (m : Int)) → l.length ≤ m
  | 0, l, _, h => by
    cases l with
    | nil => exact Nat.le_refl _
    | cons x r => have := h x List.mem_cons_self; omega
  | m + 1, l, hn, h => by
    have ih := nodup_few m (l.erase (m : Int)) (hn.erase _) fun x hx => by
      have h1 := (hn.mem_erase_iff.mp hx)
      have h2 := h x h1.2
      have h3 := h1.1
      omega
    have hl := List.length_erase (a := (m : Int)) (l := l)
    split at hl <;> omega
section
variable {X : Cx}
/-- set(list of ints) -/
def rSetL' (K : PySem.W.Frag) (w : World) : List V → Hp → VK → Prop := fun vs H Q => ∃ (a : Addr) (ns : List Int), vs = [V.ref a] ∧ SqL K H a (ns.map V.int) ∧ ns.length ≤ 1000 ∧
  ∀ (l : Addr) (n : Nat) (ks : List Int), H l = none → ks.Nodup → (∀ k, k ∈ ks ↔ k ∈ ns) → ks.length = n → Q (.ref l) (upd H l (SetO w l (fun j => decide (j ∈ ns)) n))
theorem cr_setL (hc : X.calm = true) : CallR X (.type "set") (rSetL' X.K X.w) := by
  intro pins s σ H vs us Q I r h
  obtain ⟨a, ns, rfl, hs, hn, q⟩ := h
  obtain ⟨its, rv, pl, hz⟩ := I.list hs
  rw [Vals.ref1 r]
  have hi := rv.ints
  refine call_setL ns (I.ok.hd hc) pl.isList (by simpa using hi) (Nat.lt_of_le_of_lt (Nat.add_le_add_right hn 1) (by decide)) fun h' tk n R kp => ?_
  obtain ⟨o, es, ep, t, h1, h2, h3, h4, h5, h6, h7, h8, h9, h10⟩ := id R
  refine ⟨.ref s.heap.objs.size, _, I.laid (t' := tk) kp (Nat.le_refl _) (setO_new R), rfl, q _ n (es.toList.map keyOf) (I.hok.fresh (Nat.le_refl _)) h5 (fun k => ?_) (by rw [List.length_map, Array.length_toList]; exact h9)⟩
  rw [← h6 k, decide_eq_true_eq]
/-- sorted(set(list of ints)), the ints from 0 to 62 -/
def rSortSet (K : PySem.W.Frag) : List V → Hp → VK → Prop := fun vs H Q => ∃ (a : Addr) (ns : List Int) (m : Nat), vs = [V.ref a] ∧ SqL K H a (ns.map V.int) ∧ ns.length ≤ 1000 ∧ m < 64 ∧ (∀ x ∈ ns, 0 ≤ x ∧ x < (m : Int)) ∧
  ∀ (ms : List Int) (p : Addr) (H' : Hp), Same H H' → H' p = some (.lst (ms.map V.int)) → ms.Pairwise (· < ·) → (∀ k, k ∈ ms ↔ k ∈ ns) → H p = none → Q (.ref p) H'
/-- what set asks, where sorted stands around it -/
theorem sortSet_of {w : World} {K : PySem.W.Frag} {vs : List V} {H : Hp} {Q : VK} (h : rSortSet K vs H Q) : rSetL' K w vs H (fun x H1 => rSortedSet w [x] H1 Q) := by
  obtain ⟨a, ns, m, rfl, hs, hn, hm, hr, q⟩ := h
  refine ⟨a, ns, rfl, hs, hn, fun l n ks nl nd mem len => ⟨l, _, n, rfl, upd_same, ?_, fun ms p up mm _ np => ?_⟩⟩
  · rw [← len]
    exact Nat.lt_of_le_of_lt (nodup_few m ks nd fun x hx => hr x ((mem x).mp hx)) hm
  · have sl : Same H (upd H l (SetO w l (fun j => decide (j ∈ ns)) n)) := same_new nl
    exact q ms p _ (sl.trans (same_new np)) upd_same up (fun k => by rw [mm k, decide_eq_true_eq]) (sl.free np)
end
end Pr
/-! xs != [] and xs == []. -/
namespace Pr
open PySem PySem.Spec PyProof.Rows L2
theorem list_neL1 (l : Addr) (items : Array Value) (n : Nat) (b : Addr) (items2 : Array Value) (n2 : Nat) (hc0 : (items.size != items2.size) = true) :
    Meets (Builtin.«list.__ne__» ⟨[.ref l, .ref b], []⟩) (fun _ R s => s.heap.get? l = some { cls := .type "list", dict := none, data := .seq items n, slots := #[] } ∧ s.heap.get? b = some { cls := .type "list", dict := none, data := .seq items2 n2, slots := #[] } ∧ R (.ok (.ret (Value.bool (CmpOp.NotEq == CmpOp.NotEq)))) { s with heap := s.heap, toks := s.toks }) :=
  .of_wp fun prog w A R s h => by
    obtain ⟨hp, g, d, tk, os⟩ := s; obtain ⟨hl, hb, h⟩ := h
    have f3 := AutoSeq1.sub_list_list
    wp_walk using AutoSeq1.wpAny_loadPart' hl, AutoSeq1.wpAny_loadPart' hb
    exact ⟨_, rfl, h⟩
theorem list_eqL1 (l : Addr) (items : Array Value) (n : Nat) (b : Addr) (items2 : Array Value) (n2 : Nat) (hc0 : (items.size != items2.size) = true) :
    Meets (Builtin.«list.__eq__» ⟨[.ref l, .ref b], []⟩) (fun _ R s => s.heap.get? l = some { cls := .type "list", dict := none, data := .seq items n, slots := #[] } ∧ s.heap.get? b = some { cls := .type "list", dict := none, data := .seq items2 n2, slots := #[] } ∧ R (.ok (.ret (Value.bool (CmpOp.Eq == CmpOp.NotEq)))) { s with heap := s.heap, toks := s.toks }) :=
  .of_wp fun prog w A R s h => by
    obtain ⟨hp, g, d, tk, os⟩ := s; obtain ⟨hl, hb, h⟩ := h
    have f3 := AutoSeq1.sub_list_list
    wp_walk using AutoSeq1.wpAny_loadPart' hl, AutoSeq1.wpAny_loadPart' hb
    exact ⟨_, rfl, h⟩
section
variable {X : Cx}
/-- xs != [], two lists that stand -/
def rNeE1 : R2 := fun x y H Q => ∃ l b xs, x = .ref l ∧ y = .ref b ∧ H l = some (.lst xs) ∧ H b = some (.lst []) ∧ Q (.bl (!xs.isEmpty)) H
theorem op_neE1 (hu : X.A.units + 64 < cLine) : OpR X (compareOp .NotEq) rNeE1 := by
  intro pins s σ H x y v u Q I rx ry h
  obtain ⟨l, b, xs, rfl, rfl, hl, hb, q⟩ := h
  by_cases e : xs = []
  · subst e
    exact op_neD hu pins s σ H _ _ v u Q I rx ry ⟨.list [], .list [], .lst (.inl (.inl hl)) .nil, .lst (.inl (.inl hb)) .nil, rfl, rfl, q⟩
  · cases rx
    cases ry
    obtain ⟨_, its, n, rv, ho⟩ := I.hok _ _ hl
    obtain ⟨_, its2, n2, rv2, ho2⟩ := I.hok _ _ hb
    cases rv2
    have hlen := rv.length
    have hne : its.toArray.size ≠ 0 := by
      rw [List.size_toArray, ← hlen]
      exact fun z => e (List.eq_nil_of_length_eq_zero z)
    have q' : Q (.bl true) H := by
      have : xs.isEmpty = false := by
        cases xs with
        | nil => exact absurd rfl e
        | cons _ _ => rfl
      rw [this] at q; exact q
    exact richCompare_meets_room (op := .NotEq) ⟨_, ho, rfl⟩ ⟨_, ho2, rfl⟩ PySem.F.slot_list_ne PySem.F.entry_list_ne (PySem.F.args_list_ne_2 _ _) (list_neL1 l its.toArray n b ([] : List Value).toArray n2 (by simpa using hne))
      ⟨ho, ho2, show Value.bool (CmpOp.NotEq == CmpOp.NotEq) ≠ Value.notImplemented ∧ _ from ⟨(fun z => nomatch z), .bl true, H, I, rfl, q'⟩⟩ (by omega)
/-- xs == [], two lists that stand -/
def rEqE1 : R2 := fun x y H Q => ∃ l b xs, x = .ref l ∧ y = .ref b ∧ H l = some (.lst xs) ∧ H b = some (.lst []) ∧ Q (.bl xs.isEmpty) H
theorem op_eqE1 (hu : X.A.units + 64 < cLine) : OpR X (compareOp .Eq) rEqE1 := by
  intro pins s σ H x y v u Q I rx ry h
  obtain ⟨l, b, xs, rfl, rfl, hl, hb, q⟩ := h
  by_cases e : xs = []
  · subst e
    exact op_eqD hu pins s σ H _ _ v u Q I rx ry ⟨.list [], .list [], .lst (.inl (.inl hl)) .nil, .lst (.inl (.inl hb)) .nil, rfl, rfl, q⟩
  · cases rx
    cases ry
    obtain ⟨_, its, n, rv, ho⟩ := I.hok _ _ hl
    obtain ⟨_, its2, n2, rv2, ho2⟩ := I.hok _ _ hb
    cases rv2
    have hlen := rv.length
    have hne : its.toArray.size ≠ 0 := by
      rw [List.size_toArray, ← hlen]
      exact fun z => e (List.eq_nil_of_length_eq_zero z)
    have q' : Q (.bl false) H := by
      have : xs.isEmpty = false := by
        cases xs with
        | nil => exact absurd rfl e
        | cons _ _ => rfl
      rw [this] at q; exact q
    exact richCompare_meets_room (op := .Eq) ⟨_, ho, rfl⟩ ⟨_, ho2, rfl⟩ PySem.F.slot_list_eq PySem.F.entry_list_eq (PySem.F.args_list_eq_2 _ _) (list_eqL1 l its.toArray n b ([] : List Value).toArray n2 (by simpa using hne))
      ⟨ho, ho2, show Value.bool (CmpOp.Eq == CmpOp.NotEq) ≠ Value.notImplemented ∧ _ from ⟨(fun z => nomatch z), .bl false, H, I, rfl, q'⟩⟩ (by omega)
end
end Pr
/-! Tuples that are known: a display, a repetition; how often a text is in one; sums and slices of tuples with one way on. -/
namespace Pr
open PySem PySem.Spec PyProof.Rows L2
section
variable {X : Cx}
def tTupF (t : TA) : TE := fun σ H Q => t σ H fun xs H1 => xs.length ≤ sizeLine ∧ ∀ p o, H1 p = none → o.dict = none → Q (.ref p) (upd H1 p (.frz o (.tup xs)))
theorem pe_tupF {es : List Expr} {t : TA} {x1 : Nat} {pos : Pos} (h : PA X es t) : PE X (.Tuple es x1 pos) (tTupF t) :=
  ⟨fun pins s σ H Q I hq => wpAny_Tuple_spliced (thn (h.run pos pins s σ H _ I hq) fun us s1 ⟨xs, H1, I1, r, z, q⟩ => ⟨r.length ▸ z,
    ⟨.ref s1.heap.objs.size, _, I1.laid (t' := s1.toks) (o := .frz { cls := .type "tuple", data := .seq us.toArray } (.tup xs)) (fun _ _ e => Heap.get?_push_of_some _ e) (Nat.le_refl _) ⟨Heap.get?_push_size _ rfl, z, us, r, IsTup.new _ _⟩, rfl,
      q _ _ (I1.hok.fresh (Nat.le_refl _)) rfl⟩⟩)⟩
/-- (v,) * k of a known tuple -/
def rRepF : R2 := fun x y H Q => ∃ (l : Addr) (v : V) (k : Nat), x = .ref l ∧ y = .int (k : Int) ∧ FT H l [v] ∧ 1 ≤ k ∧ k ≤ 1000 ∧ ∀ p H', Same H H' → FT H' p (List.replicate k v) → Q (.ref p) H'
theorem op_repF : OpR X (binaryOp .Mult) rRepF := by
  intro pins s σ H x y u1 u2 Q I rx ry h
  obtain ⟨l, v, k, rfl, rfl, hF, h1, h2, q⟩ := h
  by_cases e1 : k = 1
  · subst e1
    exact op_rep1 pins s σ H _ _ u1 u2 Q I rx ry ⟨l, v, rfl, hF.sq, .inl ⟨rfl, q l H (Same.refl _) hF⟩⟩
  · cases rx
    obtain ⟨tk, rfl⟩ := ry
    obtain ⟨its, r, ⟨⟨cls, dd, data, sl⟩, ho, hc, n, hd⟩, hs⟩ := I.tuple (hF.sq (K := X.K))
    simp only at hc hd
    subst hc hd
    obtain ⟨a, rfl, ra⟩ := vals1 r
    have big : (List.replicate k [a]).flatten.length ≤ sizeLine := by
      rw [rep_flat, List.length_replicate, sizeLine_eq]; omega
    have sz : (([a] : List Value).toArray.size : Int) * (k : Int) = (k : Int) := by
      show (1 : Int) * (k : Int) = _
      omega
    have big2 : (List.foldl (fun x1 x2 => x1 ++ x2) #[] (List.replicate ((k : Int)).toNat ([a] : List Value).toArray)).size ≤ sizeLine := by
      rw [size_rep, List.size_toArray, Int.toNat_natCast]; exact big
    refine wpAny_binaryOp_repeat_ref (T := "tuple") (U := "int") (by decide) ⟨_, ho, rfl⟩ (fun s' => typeIs_int s' (k : Int) tk) noFill_tuple_mul F.fills_int_mul F.slot_int_rmul repeat_tuple F.slot_int_index.lookup ?_
    refine call_meets F.slot_int_rmul (typeIs_int s (k : Int) tk) F.entry_int_rmul (F.args_int_rmul_2 _ _) (int_rmul_tuple (k : Int) tk l _ n dd sl) ⟨ho, rfl, ⟨_, ho, rfl⟩, ?_⟩
    refine call_meets F.slot_tuple_mul ⟨_, ho, rfl⟩ F.entry_tuple_mul (F.args_tuple_mul_2 _ _) (tuple_mulW l _ n dd sl (k : Int) tk ?_ ?_ ?_ ?_ ?_ big2) ⟨ho, ?_⟩
    · rw [decide_eq_false (by omega), decide_eq_false (by omega)]; rfl
    · show (false || ((k : Int) == 1)) = false
      rw [Bool.false_or]; exact beq_eq_false_iff_ne.mpr (by omega)
    · rw [decide_eq_false (by omega)]; rfl
    · rw [sz]; omega
    · unfold Builtin.Tuple.tupleTooMany
      rw [sz, sizeLine_eq]; exact decide_eq_false (by omega)
    · rw [size_rep, Int.toNat_natCast]
      have rr := r.rep k
      refine ⟨.ref s.heap.objs.size, _, I.laid (t' := s.toks) (o := .frz { cls := .type "tuple", data := .seq (List.replicate k [a]).flatten.toArray } (.tup (List.replicate k [v]).flatten)) (fun _ _ e => Heap.get?_push_of_some _ e) (Nat.le_refl _) ⟨Heap.get?_push_size _ rfl, ?_, _, rr, IsTup.new _ _⟩, rfl,
        q _ _ (same_new (I.hok.fresh (Nat.le_refl _))) ⟨_, by rw [upd_same, rep_flat (v := v)], rfl⟩⟩
      rw [rep_flat, List.length_replicate, sizeLine_eq]; omega
/-- t + u, one way on -/
def rCatS (K : PySem.W.Frag) : R2 := fun x y H Q => ∃ a b xs ys, x = .ref a ∧ y = .ref b ∧ SqT K H a xs ∧ SqT K H b ys ∧ xs.length + ys.length ≤ sizeLine ∧ ∀ p H', Same H H' → SqT K H' p (xs ++ ys) → Q (.ref p) H'
theorem op_catS : OpR X (binaryOp .Add) (rCatS X.K) := by
  intro pins s σ H x y u1 u2 Q I rx ry h
  obtain ⟨a, b, xs, ys, rfl, rfl, ha, hb, hz, q⟩ := h
  refine op_catA pins s σ H _ _ u1 u2 Q I rx ry ⟨a, b, xs, ys, rfl, rfl, ha, hb, hz, fun e => q b H (Same.refl _) ?_, fun _ e => q a H (Same.refl _) ?_, fun _ _ p np => q p _ (same_new np) (.inl (.inl upd_same))⟩
  · rw [e]; exact hb
  · rw [e, List.append_nil]; exact ha
/-- t[lo:hi], one way on -/
def rSlS (K : PySem.W.Frag) : V → Option Int → Option Int → Hp → VK → Prop := fun x lo hi H Q => ∃ a xs, x = .ref a ∧ SqT K H a xs ∧ ∀ p H', Same H H' → SqT K H' p (cutV xs lo hi) → Q (.ref p) H'
theorem sl_tupS : SlR X (rSlS X.K) := by
  intro pins s σ H x v vl vu lo hi sl Q I rx hs pl pu h
  obtain ⟨a, xs, rfl, ha, q⟩ := h
  refine sl_tupA pins s σ H _ v vl vu lo hi sl Q I rx hs pl pu ⟨a, xs, rfl, ha, fun e => q a H (Same.refl _) ?_, fun _ p np => q p _ (same_new np) (.inl (.inl upd_same))⟩
  have : cutV xs lo hi = xs := by
    unfold cutV
    rw [e.1, e.2, List.drop_zero, Nat.sub_zero, List.take_length]
  rw [this]; exact ha
theorem countP_str (k : Str) : ∀ {vs : List Value} {ys : List Str}, StrsAre vs ys → vs.countP (isStrOf k) = ys.count k
  | _, _, .nil => rfl
  | _, _, .cons n u h => by
    rw [List.countP_cons, List.count_cons, countP_str k h]
    rfl
/-- t.count(text) -/
def rCntS (K : PySem.W.Frag) : V → List V → Hp → VK → Prop := fun x xs H Q => ∃ (p : Addr) (ys : List Str) (k : Str), x = .ref p ∧ xs = [.str k] ∧ SqT K H p (ys.map V.str) ∧ Q (.int (ys.count k : Nat)) H
theorem mt_tcountS : MtR X "tuple.count" (rCntS X.K) := by
  intro pins s σ H x xs v us Q I rx rxs h
  obtain ⟨p, ys, k, rfl, rfl, hs, q⟩ := h
  cases rx
  obtain ⟨u, rfl, t, rfl⟩ := rxs.one
  obtain ⟨its, rv, ⟨⟨cls, dd, data, sl⟩, ho, hc, n, hd⟩, hlen⟩ := I.tuple hs
  simp only at hc hd
  subst hc hd
  have hi := strs_of_vals rv
  refine call_meets PySem.F.slot_tuple_count ⟨_, ho, rfl⟩ PySem.F.entry_tuple_count (PySem.F.args_tuple_count_2 _ _)
    (SeqAt.tuple_countAt p its.toArray n dd sl (.str k t) (isStrOf k)) ⟨ho, fun y hy => (eq_isStrOf k t hi y (by simpa using hy)).at _ _, ?_⟩
  have ec : its.toArray.toList.countP (isStrOf k) = ys.count k := countP_str k hi
  rw [ec]
  exact ⟨.int (ys.count k : Nat), H, I.tok _, ⟨s.toks, rfl⟩, q⟩
end
end Pr
/-! Data of any kind, with dicts; its lists stand apart from the deck (a, c). -/
namespace Pr
open PySem PySem.Spec PyProof.Rows L2
mutual
inductive Dq (K : PySem.W.Frag) (N : Addr → Prop) (H : Hp) : V → PyData → Prop
  | non : Dq K N H .non .none
  | bl (b : Bool) : Dq K N H (.bl b) (.bool b)
  | int (i : Int) : Dq K N H (.int i) (.int i)
  | str (x : Str) : Dq K N H (.str x) (.str x)
  | lst {l : Addr} {xs : List V} {ds : List PyData} : l ≠ sysModules → ¬ N l → H l = some (.lst xs) → DqAll K N H xs ds → Dq K N H (.ref l) (.list ds)
  | tup {l : Addr} {xs : List V} {ds : List PyData} : SqT K H l xs → DqAll K N H xs ds → Dq K N H (.ref l) (.tuple ds)
  | dct0 {l : Addr} : H l = some (.dK []) → Dq K N H (.ref l) (.dict [])
  | dct1 {l : Addr} {x : Str} {i : Int} : H l = some (.dK [(Sum.inr x, .int i)]) → Dq K N H (.ref l) (.dict [(.str x, .int i)])
  | dctN {l : Addr} {x : Str} : H l = some (.dK [(Sum.inr x, .non)]) → Dq K N H (.ref l) (.dict [(.str x, .none)])
  | dct2 {l : Addr} {x y : Str} {i j : Int} : H l = some (.dK [(Sum.inr x, .int i), (Sum.inr y, .int j)]) → Dq K N H (.ref l) (.dict [(.str x, .int i), (.str y, .int j)])
inductive DqAll (K : PySem.W.Frag) (N : Addr → Prop) (H : Hp) : List V → List PyData → Prop
  | nil : DqAll K N H [] []
  | cons {v : V} {vs : List V} {d : PyData} {ds : List PyData} : Dq K N H v d → DqAll K N H vs ds → DqAll K N H (v :: vs) (d :: ds)
end
section
variable {K : PySem.W.Frag} {N : Addr → Prop} {a c : Addr} {H H' : Hp}
theorem DqAll.length : ∀ {vs : List V} {ds : List PyData}, DqAll K N H vs ds → vs.length = ds.length
  | _, _, .nil => rfl
  | _, _, .cons _ t => by rw [List.length_cons, List.length_cons, t.length]
theorem DqAll.append : ∀ {vs us : List V} {ds es : List PyData}, DqAll K N H vs ds → DqAll K N H us es → DqAll K N H (vs ++ us) (ds ++ es)
  | _, _, _, _, .nil, h => h
  | _, _, _, _, .cons r t, h => .cons r (t.append h)
theorem DqAll.get : ∀ {vs : List V} {ds : List PyData}, DqAll K N H vs ds → ∀ (i : Nat) (v : V), vs[i]? = some v → ∃ d, ds[i]? = some d ∧ Dq K N H v d
  | _, _, .nil, i, v, h => by simp at h
  | _, _, .cons r t, 0, v, h => by simp at h; subst h; exact ⟨_, rfl, r⟩
  | _, _, .cons r t, i + 1, v, h => by
    obtain ⟨d, h1, h2⟩ := t.get i v (by simpa using h)
    exact ⟨d, by simpa using h1, h2⟩
theorem DqAll.take : ∀ (n : Nat) {vs : List V} {ds : List PyData}, DqAll K N H vs ds → DqAll K N H (vs.take n) (ds.take n)
  | 0, _, _, _ => by simpa using DqAll.nil
  | n + 1, _, _, .nil => .nil
  | n + 1, _, _, .cons r t => .cons r (t.take n)
theorem DqAll.drop : ∀ (n : Nat) {vs : List V} {ds : List PyData}, DqAll K N H vs ds → DqAll K N H (vs.drop n) (ds.drop n)
  | 0, _, _, h => h
  | n + 1, _, _, .nil => .nil
  | n + 1, _, _, .cons r t => t.drop n
theorem DqAll.reverse : ∀ {vs : List V} {ds : List PyData}, DqAll K N H vs ds → DqAll K N H vs.reverse ds.reverse
  | _, _, .nil => .nil
  | _, _, .cons r t => by rw [List.reverse_cons, List.reverse_cons]; exact t.reverse.append (.cons r .nil)
theorem DqAll.rep (n : Nat) {vs : List V} {ds : List PyData} (h : DqAll K N H vs ds) : DqAll K N H (List.replicate n vs).flatten (List.replicate n ds).flatten := by
  induction n with
  | zero => exact .nil
  | succ n ih => rw [List.replicate_succ, List.replicate_succ, List.flatten_cons, List.flatten_cons]; exact h.append ih
theorem dqAll_ints : ∀ l : List Int, DqAll K N H (l.map V.int) (l.map PyData.int)
  | [] => .nil
  | x :: r => .cons (.int x) (dqAll_ints r)
theorem dq_ints {q : Addr} {l : List Int} (h : SqT K H q (l.map V.int)) : Dq K N H (.ref q) (dInts l) := .tup h (dqAll_ints l)
theorem dqAll_pan : ∀ {qs : List Addr} {pan : List (List Int)}, Paired (fun q l => FT H q (l.map V.int)) qs pan → DqAll K N H (qs.map V.ref) (pan.map dInts)
  | _, _, .nil => .nil
  | _, _, .cons r t => .cons (dq_ints r.sq) (dqAll_pan t)
mutual
theorem Dq.keep (hs : ∀ l o, ¬ N l → H l = some o → H' l = some o) (ht : ∀ l xs, SqT K H l xs → SqT K H' l xs) (hk : ∀ l kvs, H l = some (.dK kvs) → H' l = some (.dK kvs)) : ∀ (d : PyData) (v : V), Dq K N H v d → Dq K N H' v d
  | .none, _, h => by cases h; exact .non
  | .bool b, _, h => by cases h; exact .bl b
  | .int i, _, h => by cases h; exact .int i
  | .str x, _, h => by cases h; exact .str x
  | .list ds, _, h => by
    cases h with
    | lst h1 h2 e q => exact .lst h1 h2 (hs _ _ h2 e) (Dq.keepAll hs ht hk ds _ q)
  | .tuple ds, _, h => by
    cases h with
    | tup e q => exact .tup (ht _ _ e) (Dq.keepAll hs ht hk ds _ q)
  | .dict kvs, _, h => by
    cases h with
    | dct0 e => exact .dct0 (hk _ _ e)
    | dct1 e => exact .dct1 (hk _ _ e)
    | dctN e => exact .dctN (hk _ _ e)
    | dct2 e => exact .dct2 (hk _ _ e)
theorem Dq.keepAll (hs : ∀ l o, ¬ N l → H l = some o → H' l = some o) (ht : ∀ l xs, SqT K H l xs → SqT K H' l xs) (hk : ∀ l kvs, H l = some (.dK kvs) → H' l = some (.dK kvs)) : ∀ (ds : List PyData) (vs : List V), DqAll K N H vs ds → DqAll K N H' vs ds
  | [], _, h => by cases h; exact .nil
  | d :: ds, _, h => by
    cases h with
    | cons r t => exact .cons (Dq.keep hs ht hk d _ r) (Dq.keepAll hs ht hk ds _ t)
end
theorem Deck.sqT {m : Nat} (D : Deck H a c m) (b : But a c H H') {l : Addr} {xs : List V} (h : SqT K H l xs) : SqT K H' l xs := by
  rcases h with (h | ⟨o, h⟩) | h
  · exact .inl (.inl (b _ _ (D.apart h (fun _ => by intro z; cases z)).1 (D.apart h (fun _ => by intro z; cases z)).2 h))
  · exact .inl (.inr ⟨o, b _ _ (D.apart h (fun _ => by intro z; cases z)).1 (D.apart h (fun _ => by intro z; cases z)).2 h⟩)
  · exact .inr h
theorem Deck.dk {m : Nat} (D : Deck H a c m) (l : Addr) (kvs : List (Key × V)) (h : H l = some (.dK kvs)) : l ≠ a ∧ l ≠ c := D.apart h (fun _ => by intro z; cases z)
theorem apart_N (na : N a) (nc : N c) {l : Addr} (h : ¬ N l) : l ≠ a ∧ l ≠ c := ⟨fun e => h (by rw [e]; exact na), fun e => h (by rw [e]; exact nc)⟩
theorem Dq.but {m : Nat} (na : N a) (nc : N c) (D : Deck H a c m) (b : But a c H H') {v : V} {d : PyData} (h : Dq K N H v d) : Dq K N H' v d :=
  Dq.keep (fun l o h1 e => b l o (apart_N na nc h1).1 (apart_N na nc h1).2 e) (fun _ _ e => D.sqT b e) (fun l kvs e => b _ _ (D.dk l kvs e).1 (D.dk l kvs e).2 e) d v h
theorem DqAll.but {m : Nat} (na : N a) (nc : N c) (D : Deck H a c m) (b : But a c H H') {v : List V} {d : List PyData} (h : DqAll K N H v d) : DqAll K N H' v d :=
  Dq.keepAll (fun l o h1 e => b l o (apart_N na nc h1).1 (apart_N na nc h1).2 e) (fun _ _ e => D.sqT b e) (fun l kvs e => b _ _ (D.dk l kvs e).1 (D.dk l kvs e).2 e) d v h
mutual
theorem Dq.same (e : Same H H') : ∀ (d : PyData) (v : V), Dq K N H v d → Dq K N H' v d
  | .none, _, h => by cases h; exact .non
  | .bool b, _, h => by cases h; exact .bl b
  | .int i, _, h => by cases h; exact .int i
  | .str x, _, h => by cases h; exact .str x
  | .list ds, _, h => by
    cases h with
    | lst h1 h2 q r => exact .lst h1 h2 (e _ _ q) (Dq.sameAll e ds _ r)
  | .tuple ds, _, h => by
    cases h with
    | tup q r => exact .tup (same_sqT e q) (Dq.sameAll e ds _ r)
  | .dict kvs, _, h => by
    cases h with
    | dct0 q => exact .dct0 (e _ _ q)
    | dct1 q => exact .dct1 (e _ _ q)
    | dctN q => exact .dctN (e _ _ q)
    | dct2 q => exact .dct2 (e _ _ q)
theorem Dq.sameAll (e : Same H H') : ∀ (ds : List PyData) (vs : List V), DqAll K N H vs ds → DqAll K N H' vs ds
  | [], _, h => by cases h; exact .nil
  | d :: ds, _, h => by
    cases h with
    | cons r t => exact .cons (Dq.same e d _ r) (Dq.sameAll e ds _ t)
end
/-- its built-in type -/
def tyD : PyData → String
  | .none => "NoneType"
  | .bool _ => "bool"
  | .int _ => "int"
  | .str _ => "str"
  | .list _ => "list"
  | .tuple _ => "tuple"
  | .dict _ => "dict"
theorem tyT {l : Addr} {xs : List V} (h : SqT K H l xs) : TyX K H (.ref l) (.type "tuple") := by
  rcases h with (h | ⟨o, h⟩) | ⟨o, its, n, h, hc, _⟩
  · exact .base (.tup h)
  · exact .fTuple h
  · exact .kTuple h hc
theorem Dq.ty {v : V} {d : PyData} (h : Dq K N H v d) : TyX K H v (.type (tyD d)) := by
  cases h with
  | non => exact .base .non
  | bl b => exact .base (.bl b)
  | int i => exact .base (.int i)
  | str x => exact .base (.str x)
  | lst _ _ e _ => exact .base (.lst e)
  | tup e _ => exact tyT e
  | dct0 e => exact .base (.dK e)
  | dct1 e => exact .base (.dK e)
  | dctN e => exact .base (.dK e)
  | dct2 e => exact .base (.dK e)
end
section
variable {X : Cx} {pins : List (Addr × Obj)} {σ : L2.St} {H : Hp} {s : Shared} {N : Addr → Prop}
mutual
theorem Dq.reads (I : Inv X pins σ H s) : ∀ (d : PyData) (v : V) (u : Value), Dq X.K N H v d → RelV v u → ∃ as, Reads s.heap u d as ∧ sysModules ∉ as
  | .none, _, _, h, r => by
    cases h; cases r; exact ⟨_, Reads.none, by simp⟩
  | .bool b, _, _, h, r => by
    cases h; cases r; exact ⟨_, Reads.bool b, by simp⟩
  | .int i, _, _, h, r => by
    cases h; obtain ⟨t, rfl⟩ := r; exact ⟨_, Reads.int i t, by simp⟩
  | .str x, _, _, h, r => by
    cases h; obtain ⟨t, rfl⟩ := r; exact ⟨_, Reads.str x t, by simp⟩
  | .list ds, _, _, h, r => by
    cases h with
    | lst h1 _ hs ha =>
      cases r
      obtain ⟨_, its, n, rv, ho⟩ := I.hok _ _ hs
      obtain ⟨as, hr, hn⟩ := Dq.readsAll I ds _ its ha rv
      exact ⟨_, Reads.list ho rfl rfl hr, by simp [hn, Ne.symm h1]⟩
  | .tuple ds, _, _, h, r => by
    cases h with
    | tup hs ha =>
      cases r
      obtain ⟨its, rv, ⟨o, ho, hc, n, hd⟩, _⟩ := I.tuple hs
      obtain ⟨as, hr, hn⟩ := Dq.readsAll I ds _ its ha rv
      exact ⟨_, Reads.tuple ho hc hd hr, hn⟩
  | .dict _, _, _, h, r => by
    cases h with
    | dct0 e =>
      cases r
      obtain ⟨_, ns, vs, kv, o, es, ep, ho, hc, hd, _, hp, _⟩ := I.hok _ _ e
      cases kv
      have he : es.toList = [] := by cases hes : es.toList with
        | nil => rfl
        | cons x y => rw [hes] at hp; cases hp
      have ns' := of_decide_eq_false (show decide (_ = sysModules) = false by simpa using ns)
      refine ⟨_, Reads.dict (kvs := []) ho hc.1 hd (by rw [he]; exact .nil) (by rw [he]; exact .nil), ?_⟩
      simp [Ne.symm ns']
    | @dct1 l x i e =>
      cases r
      obtain ⟨_, ns, vs, kv, o, es, ep, ho, hc, hd, _, hp, _⟩ := I.hok _ _ e
      cases kv with
      | @cons p q l1 l2 kq kr =>
        cases kr
        obtain ⟨h1, t, h2⟩ := kq
        obtain ⟨en, he, hk, hv⟩ : ∃ en, es.toList = [en] ∧ keyIs q.1 en.key = true ∧ en.val = q.2 := by
          cases hes : es.toList with
          | nil => rw [hes] at hp; cases hp
          | cons x y =>
            rw [hes] at hp
            cases hp with
            | cons p1 p2 p3 => cases p3; exact ⟨x, rfl, p1, p2⟩
        have h1' : (Sum.inr x : Key) = q.1 := h1
        rw [← h1'] at hk
        obtain ⟨t', hk'⟩ := Value.isStrOf_shape (show Value.isStrOf x en.key = true from hk)
        have ns' := of_decide_eq_false (show decide (_ = sysModules) = false by simpa using ns)
        refine ⟨_, Reads.dict (kvs := [(.str x, .int i)]) ho hc.1 hd (as := [] ++ []) (bs := [] ++ []) ?_ ?_, ?_⟩
        · rw [he]; show ReadsAll _ [en.key] _ _; rw [hk']; exact .cons (.str x t') .nil
        · rw [he]; show ReadsAll _ [en.val] _ _; rw [hv, h2]; exact .cons (.int i t) .nil
        · simp [Ne.symm ns']
    | @dctN l x e =>
      cases r
      obtain ⟨_, ns, vs, kv, o, es, ep, ho, hc, hd, _, hp, _⟩ := I.hok _ _ e
      cases kv with
      | @cons p q l1 l2 kq kr =>
        cases kr
        obtain ⟨h1, h2⟩ := kq
        obtain ⟨en, he, hk, hv⟩ : ∃ en, es.toList = [en] ∧ keyIs q.1 en.key = true ∧ en.val = q.2 := by
          cases hes : es.toList with
          | nil => rw [hes] at hp; cases hp
          | cons x y =>
            rw [hes] at hp
            cases hp with
            | cons p1 p2 p3 => cases p3; exact ⟨x, rfl, p1, p2⟩
        have h1' : (Sum.inr x : Key) = q.1 := h1
        rw [← h1'] at hk
        obtain ⟨t', hk'⟩ := Value.isStrOf_shape (show Value.isStrOf x en.key = true from hk)
        have ns' := of_decide_eq_false (show decide (_ = sysModules) = false by simpa using ns)
        refine ⟨_, Reads.dict (kvs := [(.str x, .none)]) ho hc.1 hd (as := [] ++ []) (bs := [] ++ []) ?_ ?_, ?_⟩
        · rw [he]; show ReadsAll _ [en.key] _ _; rw [hk']; exact .cons (.str x t') .nil
        · rw [he]; show ReadsAll _ [en.val] _ _; rw [hv, h2]; exact .cons .none .nil
        · simp [Ne.symm ns']
    | @dct2 l x y i j e =>
      cases r
      obtain ⟨_, ns, vs, kv, o, es, ep, ho, hc, hd, _, hp, _⟩ := I.hok _ _ e
      cases kv with
      | @cons p q l1 l2 kq kr =>
        cases kr with
        | @cons p2 q2 l3 l4 kq2 kr2 =>
        cases kr2
        obtain ⟨h1, t, h2⟩ := kq
        obtain ⟨g1, u, g2⟩ := kq2
        obtain ⟨en, en2, he, hk, hv, hk2, hv2⟩ : ∃ en en2, es.toList = [en, en2] ∧ keyIs q.1 en.key = true ∧ en.val = q.2 ∧ keyIs q2.1 en2.key = true ∧ en2.val = q2.2 := by
          cases hes : es.toList with
          | nil => rw [hes] at hp; cases hp
          | cons x y =>
            rw [hes] at hp
            cases hp with
            | cons p1 p2 p3 =>
              cases p3 with
              | cons p4 p5 p6 => cases p6; exact ⟨_, _, rfl, p1, p2, p4, p5⟩
        have h1' : (Sum.inr x : Key) = q.1 := h1
        have g1' : (Sum.inr y : Key) = q2.1 := g1
        rw [← h1'] at hk
        rw [← g1'] at hk2
        obtain ⟨t', hk'⟩ := Value.isStrOf_shape (show Value.isStrOf x en.key = true from hk)
        obtain ⟨u', hk2'⟩ := Value.isStrOf_shape (show Value.isStrOf y en2.key = true from hk2)
        have ns' := of_decide_eq_false (show decide (_ = sysModules) = false by simpa using ns)
        refine ⟨_, Reads.dict (kvs := [(.str x, .int i), (.str y, .int j)]) ho hc.1 hd (as := [] ++ ([] ++ [])) (bs := [] ++ ([] ++ [])) ?_ ?_, ?_⟩
        · rw [he]; show ReadsAll _ [en.key, en2.key] _ _; rw [hk', hk2']; exact .cons (.str x t') (.cons (.str y u') .nil)
        · rw [he]; show ReadsAll _ [en.val, en2.val] _ _; rw [hv, h2, hv2, g2]; exact .cons (.int i t) (.cons (.int j u) .nil)
        · simp [Ne.symm ns']
theorem Dq.readsAll (I : Inv X pins σ H s) : ∀ (ds : List PyData) (vs : List V) (us : List Value), DqAll X.K N H vs ds → Vals vs us → ∃ as, ReadsAll s.heap us ds as ∧ sysModules ∉ as
  | [], _, _, h, r => by
    cases h; cases r; exact ⟨_, ReadsAll.nil, by simp⟩
  | d :: ds, _, _, h, r => by
    cases h with
    | cons h1 h2 =>
      cases r with
      | cons r1 r2 =>
        obtain ⟨as, q1, n1⟩ := Dq.reads I d _ _ h1 r1
        obtain ⟨bs, q2, n2⟩ := Dq.readsAll I ds _ _ h2 r2
        exact ⟨_, ReadsAll.cons q1 q2, by simp [n1, n2]⟩
end
end
/-! ### how deep, how long -/
structure Shq (dep n : Nat) (d : PyData) : Prop where
  sh : d.showable = true
  dp : d.depth ≤ dep
  ln : d.shown.length ≤ n
theorem Shq.mono {dep dep' n n' : Nat} {d : PyData} (h : Shq dep n d) (h1 : dep ≤ dep') (h2 : n ≤ n') : Shq dep' n' d := ⟨h.sh, Nat.le_trans h.dp h1, Nat.le_trans h.ln h2⟩
theorem Shw.q {dep n : Nat} {d : PyData} (h : Shw dep n d) : Shq dep n d := ⟨h.sh, h.dp, h.ln⟩
theorem shqAll {dep n : Nat} : ∀ {ds : List PyData}, (∀ d ∈ ds, Shq dep n d) → PyData.showableAll ds = true ∧ PyData.depthAll ds ≤ dep
  | [], _ => ⟨by simp only [PyData.showableAll], by simp [PyData.depthAll]⟩
  | d :: r, h => by
    obtain ⟨h1, h3⟩ := shqAll (ds := r) fun x hx => h x (List.mem_cons_of_mem _ hx)
    have g := h d List.mem_cons_self
    refine ⟨by simp only [PyData.showableAll, g.sh, h1, Bool.and_self], ?_⟩
    simp only [PyData.depthAll]
    exact Nat.max_le.mpr ⟨g.dp, h3⟩
theorem Shq.tuple {dep n m : Nat} {ds : List PyData} (h : ∀ d ∈ ds, Shq dep n d) (hm : ds.length ≤ m) : Shq (dep + 1) (m * (n + 2) + 3) (.tuple ds) := by
  obtain ⟨h1, h3⟩ := shqAll h
  refine ⟨by simp only [PyData.showable, h1], by simp only [PyData.depth]; omega, ?_⟩
  simp only [PyData.shown]
  rw [shownAll_map]
  have a1 := tupleText_len (ds.map PyData.shown)
  have a2 := piled_le fun d hd => (h d hd).ln
  have a3 : ds.length * (n + 2) ≤ m * (n + 2) := Nat.mul_le_mul_right _ hm
  omega
theorem Shq.list {dep n m : Nat} {ds : List PyData} (h : ∀ d ∈ ds, Shq dep n d) (hm : ds.length ≤ m) : Shq (dep + 1) (m * (n + 2) + 3) (.list ds) := by
  obtain ⟨h1, h3⟩ := shqAll h
  refine ⟨by simp only [PyData.showable, h1], by simp only [PyData.depth]; omega, ?_⟩
  simp only [PyData.shown]
  rw [shownAll_map]
  have a1 := listText_len (ds.map PyData.shown)
  have a2 := piled_le fun d hd => (h d hd).ln
  have a3 : ds.length * (n + 2) ≤ m * (n + 2) := Nat.mul_le_mul_right _ hm
  omega
/-! ### repr of such data -/
def rReprQ (K : PySem.W.Frag) : List V → Hp → VK → Prop := fun xs H Q => ∃ (N : Addr → Prop) (v : V) (d : PyData), xs = [v] ∧ Dq K N H v d ∧ Shq 60 sizeLine d ∧ Q (.str d.shown) H
theorem call_reprQ {X : Cx} {k : Nat} (gd : X.A.guards = some []) (hr : Room k X.A) : CallR X (.builtin "repr") (rReprQ X.K) := by
  intro pins s σ H xs us Q I rv h
  obtain ⟨N, v, d, rfl, hd, hs, q⟩ := h
  obtain ⟨u, rfl, rx⟩ := vals1 rv
  have isref : ∀ (l : Addr), v = .ref l → wpAny (model X.prog X.w) X.A (call (.builtin "repr") [u]) (EP X pins σ Q) X.xe s := fun l e => by
    subst e
    obtain ⟨as, r, hn⟩ := Dq.reads I d _ _ hd rx
    obtain rfl : u = .ref l := rx
    exact repr_of_reads' r hs.sh (fun _ => hn) gd (by have := hr.un; have := hs.dp; omega) (fun _ _ e => e) (fun h' t tk hk => ⟨.str d.shown, H, I.kept hk, ⟨t, rfl⟩, q⟩) hs.ln
  cases hd with
  | non => obtain rfl : u = .none := rx; exact PySem.P.repr_of_none ⟨.str "None", H, I.tok _, ⟨_, rfl⟩, by simpa only [PyData.shown] using q⟩
  | bl b => obtain rfl : u = .bool b := rx; exact PySem.P.repr_of_bool ⟨.str _, H, I.tok _, ⟨_, rfl⟩, by simpa only [PyData.shown] using q⟩
  | int i =>
    obtain ⟨t, rfl⟩ := rx
    have h1 : i.natAbs.log2 < 1920 := by simpa only [PyData.showable, decide_eq_true_eq] using hs.sh
    exact PySem.P.repr_of_int h1 ⟨.str _, H, I.tok _, ⟨_, rfl⟩, by simpa only [PyData.shown] using q⟩
  | str x =>
    obtain ⟨t, rfl⟩ := rx
    have h1 : (reprText x).length ≤ sizeLine := by simpa only [PyData.shown] using hs.ln
    exact PySem.P.repr_of_str ⟨.str _, H, I.tok _, ⟨_, rfl⟩, by simpa only [PyData.shown] using q⟩ h1
  | lst _ _ _ _ => exact isref _ rfl
  | tup _ _ => exact isref _ rfl
  | dct0 _ => exact isref _ rfl
  | dct1 _ => exact isref _ rfl
  | dctN _ => exact isref _ rfl
  | dct2 _ => exact isref _ rfl
end Pr
/-! Rules for what the laws do with values of any kind. -/
namespace Pr
open PySem PySem.Spec PyProof.Rows L2
section
variable {X : Cx} {es : List Expr} {t : TA} {pos : Pos}
/-- a list that stands apart from the modules' table -/
def tLstG (t : TA) : TE := fun σ H Q => t σ H fun xs H1 => xs.length ≤ sizeLine ∧ ∀ p, H1 p = none → p ≠ sysModules → Q (.ref p) (upd H1 p (.lst xs))
theorem pe_lstG (h : PA X es t) : PE X (.List es pos) (tLstG t) := by
  refine ⟨fun pins s σ H Q I hq => wpAny_List_spliced (thn (h.run pos pins s σ H _ I hq) fun us s1 ⟨xs, H1, I1, r, z, q⟩ => ⟨by rw [← r.length]; exact z, ?_⟩)⟩
  refine ⟨.ref s1.heap.objs.size, upd H1 s1.heap.objs.size (.lst xs), I1.laid (t' := s1.toks) (fun b u e => Heap.get?_push_of_some _ e) (Nat.le_refl _) ⟨z, us, 0, r, Heap.get?_push_size _ rfl⟩, rfl,
    q _ (I1.hok.fresh (Nat.le_refl _)) (Nat.ne_of_gt I1.big)⟩
def rListG (K : PySem.W.Frag) : List V → Hp → VK → Prop := fun xs H Q => ∃ p ys, xs = [.ref p] ∧ SqT K H p ys ∧ ∀ l, H l = none → l ≠ sysModules → Q (.ref l) (upd H l (.lst ys))
theorem call_listG : CallR X (.type "list") (rListG X.K) := by
  intro pins s σ H xs us Q I r h
  obtain ⟨p, ys, rfl, hq, q⟩ := h
  obtain ⟨u, rfl, rx⟩ := vals1 r
  cases rx
  obtain ⟨its, r', ⟨o, ho, hc, n, hd⟩, hz⟩ := I.tuple hq
  have hlen := r'.length
  refine call_list_seq p (.inr rfl) ho hc hd (fun h' c' kp e => ?_) (by simp only [List.size_toArray] <;> omega)
  exact ⟨.ref s.heap.objs.size, _, I.laid (t' := s.toks) kp (Nat.le_refl _) (show ObjOk X.prog X.w _ h' _ (.lst ys) from ⟨hz, its, c', r', e⟩), rfl, q _ (I.hok.fresh (Nat.le_refl _)) (Nat.ne_of_gt I.big)⟩
/-- sorted(tuple of ints) -/
def rSortT (K : PySem.W.Frag) : List V → Hp → VK → Prop := fun vs H Q => ∃ (a : Addr) (ns : List Int), vs = [V.ref a] ∧ SqT K H a (ns.map V.int) ∧ ns.length < 64 ∧
  ∀ (ns' : List Int) (p : Addr), ns'.Perm ns → ns'.Pairwise (· ≤ ·) → H p = none → Q (.ref p) (upd H p (.lst (ns'.map V.int)))
theorem cr_sortT : CallR X (.builtin "sorted") (rSortT X.K) := by
  intro pins s σ H vs us Q I r h
  obtain ⟨a, ns, rfl, hs, h64, q⟩ := h
  obtain ⟨its, rv, ⟨o, ho, hc, n, hd⟩, hz⟩ := I.tuple hs
  rw [Vals.ref1 r]
  have hi := rv.ints
  have hlen := hi.length
  refine Calls.call_function_entry kind_sorted plain_sorted entry_sorted (args_sorted1 _) ?_
  unfold Builtin.«sorted»
  refine wpAny_bind (m := checkCount "sorted" 1 1 _) (wpAny_pure ?_)
  refine wpAny_bind (wpAny_collect_seq a (.inr rfl) ho hc hd (fun h' kp => ?_) (by rw [List.size_toArray, hlen]; exact small64 h64))
  have e : its.toArray.toList = its := by simp
  rw [e]
  refine wpAny_bind (wpAny_newList ?_)
  have I1 : Inv X pins σ H { s with heap := h' } := I.kept (t' := s.toks) kp
  have hoL : (h'.push (seqObj "list" its.toArray 0)).get? h'.objs.size = some (seqObj "list" its.toArray 0) := Heap.get?_push_size _ rfl
  refine wpAny_bind (wpAny_holding (wpAny_call_entry slot_list_sort ⟨_, hoL, rfl⟩ entry_list_sort (list_sort_tree hoL hi (by rw [hlen]; exact h64) fun out ns' a1 a2 a3 => ⟨_, rfl, ?_⟩) (args_list_sort _)))
  obtain ⟨ep, he'⟩ := PyProof.Rows.sortedHeap_at (vs := its) (out := out) hoL
  have hl2 : (ns'.map V.int).length ≤ sizeLine := by rw [List.length_map, a2.length_eq]; exact small64 h64
  refine wpAny_pure ⟨_, rfl, .ref h'.objs.size, upd H h'.objs.size (.lst (ns'.map V.int)), I1.laid (t' := s.toks) (fun b ob q => ?_) (Nat.le_refl _) ⟨hl2, out.toList, ep, vals_of_ints a1, he'⟩, rfl, q ns' _ a2 a3 (I1.hok.fresh (Nat.le_refl _))⟩
  have hb : b < h'.objs.size := Heap.lt_size q
  rw [PyProof.Rows.sortedHeap_old (Nat.ne_of_lt hb) (by rw [Heap.size_push]; exact Nat.lt_succ_of_lt hb)]
  exact Heap.get?_push_of_some _ q
/-- set(tuple of ints) -/
def rSetI (K : PySem.W.Frag) (w : World) : List V → Hp → VK → Prop := fun vs H Q => ∃ (a : Addr) (ns : List Int), vs = [V.ref a] ∧ SqT K H a (ns.map V.int) ∧ ns.length ≤ 200 ∧
  ∀ (l : Addr) (n : Nat), H l = none → n ≤ ns.length → Q (.ref l) (upd H l (SetO w l (fun j => decide (j ∈ ns)) n))
theorem cr_setI (hc : X.calm = true) : CallR X (.type "set") (rSetI X.K X.w) := by
  intro pins s σ H vs us Q I r h
  obtain ⟨a, ns, rfl, hs, hn, q⟩ := h
  obtain ⟨its, rv, pt, hz⟩ := I.tuple hs
  rw [Vals.ref1 r]
  have hi := rv.ints
  refine call_set_tupI ns (I.ok.hd hc) pt (by simpa using hi) (Nat.lt_of_le_of_lt (Nat.add_le_add_right hn 1) (by decide)) fun h' tk n R hn' kp => ?_
  exact ⟨.ref s.heap.objs.size, _, I.laid (t' := tk) kp (Nat.le_refl _) (setO_new R), rfl, q _ n (I.hok.fresh (Nat.le_refl _)) hn'⟩
end
/-! ### t[::-1] -/
section
variable {prog : Program} {w : World} {A : Around} {E : Value → Shared → Prop} {s : Shared}
theorem fm_congr {f g : Nat → Option Value} : ∀ {l : List Nat}, (∀ x ∈ l, f x = g x) → l.filterMap f = l.filterMap g
  | [], _ => rfl
  | x :: r, h => by
    rw [List.filterMap_cons, List.filterMap_cons, h x List.mem_cons_self, fm_congr fun y hy => h y (List.mem_cons_of_mem _ hy)]
theorem pick_back (l : List Value) : (List.range l.length).filterMap (fun (k : Nat) => l[(((l.length : Int) - 1) + (k : Int) * (-1)).toNat]?) = l.reverse := by
  have h1 : (List.range l.length).filterMap (fun (k : Nat) => l[(((l.length : Int) - 1) + (k : Int) * (-1)).toNat]?) = (List.range l.length).filterMap (fun (k : Nat) => some ((l[l.length - 1 - k]?).getD .none)) := by
    refine fm_congr fun k hk => ?_
    have hk' := List.mem_range.mp hk
    rw [show (((l.length : Int) - 1) + (k : Int) * (-1)).toNat = l.length - 1 - k by omega, List.getElem?_eq_getElem (by omega)]; rfl
  rw [h1, show (fun (k : Nat) => some ((l[l.length - 1 - k]?).getD Value.none)) = some ∘ (fun k : Nat => (l[l.length - 1 - k]?).getD Value.none) from rfl, List.filterMap_eq_map]
  refine List.ext_getElem? fun i => ?_
  by_cases hi : i < l.length
  · rw [List.getElem?_map, List.getElem?_range hi, List.getElem?_reverse hi, List.getElem?_eq_getElem (by omega)]
    show some ((l[l.length - 1 - i]?).getD Value.none) = _
    rw [List.getElem?_eq_getElem (by omega)]; rfl
  · rw [List.getElem?_eq_none (by rw [List.length_map, List.length_range]; omega), List.getElem?_eq_none (by rw [List.length_reverse]; omega)]
theorem getItem_tuple_back {t sl : Addr} {its : List Value} {Q : Value → Shared → Prop} {vs : Value} (ht : IsTup s.heap t its.toArray) (hs : s.heap.IsSliceOf sl .none .none vs) (ps : IsPart vs (some (-1)))
    (h : Q (.ref s.heap.objs.size) { s with heap := s.heap.push { cls := .type "tuple", data := .seq its.reverse.toArray } }) (hsz : its.length ≤ sizeLine) : wpAny (model prog w) A (getItem (.ref t) (.ref sl)) Q E s := by
  obtain ⟨os, hos, hcs, hds⟩ := id hs
  have hTs : s.TypeIs (.ref sl) "slice" := ⟨os, hos, hcs⟩
  unfold getItem
  try with_reducible refine wpAny_holding ?_
  first | refine wpAny_bind (wpAny_pure ?_) | skip
  refine wpAny_bind (wpAny_sequenceKey ht.typeIs (by decide) ?_)
  refine wpAny_bind (wpAny_callSpecial?_slot (name := Str.ofString "__getitem__") ht.typeIs PyProof.Rows.slot_tuple_getitem (wpAny_call_entry PyProof.Rows.slot_tuple_getitem ht.typeIs entry_tuple_getitem ?_ (args_tuple_getitem _ _)))
  show wpAny _ _ (Builtin.Tuple.tupleItemsOf (.ref t) >>= _) _ _ s
  refine wpAny_bind (tupleItemsOf_ ht (wpAny_bind (wpAny_typeOf hTs ?_)))
  rw [if_pos (by decide)]
  have hp : Builtin.Slice.slicePlaces ((its.length : Int) - 1) (-1) (-1) = its.length := by
    unfold Builtin.Slice.slicePlaces
    rw [if_neg (by omega)]
    split
    · simp only [Int.neg_neg, Int.ediv_one]; omega
    · omega
  refine wpAny_bind ?_
  unfold Builtin.Slice.sliceApplied Builtin.Slice.sliceFields
  refine wpAny_bind (wpAny_bind (wpAny_field hos hds (x := .none) rfl (wpAny_bind (wpAny_field hos hds (x := .none) rfl (wpAny_bind (wpAny_field hos hds (x := vs) rfl (wpAny_pure ?_)))))))
  refine wpAny_bind (HT.slicePart_ ps ?_)
  show wpAny _ _ (if ((-1 : Int) == 0) = true then _ else _) _ _ s
  rw [if_neg (by decide)]
  refine wpAny_bind (slicePart_none (wpAny_bind (slicePart_none (wpAny_bind (wpAny_pure ?_)))))
  show wpAny _ _ (pure (((its.toArray.size : Nat) : Int) - 1, (-1 : Int), Builtin.Slice.slicePlaces (((its.toArray.size : Nat) : Int) - 1) (-1) (-1))) _ _ s
  rw [List.size_toArray, hp]
  refine wpAny_pure ?_
  show wpAny _ _ (if ((((its.length : Nat) : Int) - 1 == 0 && (-1 : Int) == 1 && its.length == its.toArray.size) = true) then _ else _) _ _ s
  rw [if_neg (by rw [show ((-1 : Int) == 1) = false by decide, Bool.and_false, Bool.false_and]; exact Bool.false_ne_true)]
  have ep : ((List.range its.length).filterMap fun (k : Nat) => its.toArray[((its.length : Int) - 1 + (k : Int) * (-1)).toNat]?).toArray = its.reverse.toArray := by
    have := pick_back its
    simp only [List.getElem?_toArray]
    rw [this]
  rw [ep]
  have htake : sizeOk (.seq its.reverse.toArray) := by
    show its.reverse.toArray.size ≤ sizeLine
    rw [List.size_toArray, List.length_reverse]; exact hsz
  first
    | exact wpAny_bind (m := Builtin.Tuple.tupleExact _) (wpAny_newObj_type (wpAny_pure ⟨_, rfl, wpAny_pure h⟩) htake)
    | exact wpAny_bind (m := Builtin.Tuple.tupleExact _) (wpAny_newObj_type (wpAny_bind (wpAny_pure (wpAny_pure ⟨_, rfl, wpAny_pure h⟩))) htake)
    | exact wpAny_bind (wpAny_bind (m := Builtin.Tuple.tupleExact _) (wpAny_newObj_type (wpAny_pure (wpAny_pure ⟨_, rfl, wpAny_pure h⟩)) htake))
    | exact wpAny_bind (wpAny_bind (m := Builtin.Tuple.tupleExact _) (wpAny_newObj_type (wpAny_pure ⟨_, rfl, wpAny_pure h⟩) htake))
end
section
variable {X : Cx}
def tRevT (K : PySem.W.Frag) (te : TE) : TE := fun σ H Q => te σ H fun x H1 => ∃ a xs, x = .ref a ∧ SqT K H1 a xs ∧ ∀ p, H1 p = none → Q (.ref p) (upd H1 p (.tup xs.reverse))
theorem pe_revT {e : Expr} {te : TE} {k : Nat} {p1 p2 p3 pos : Pos} (he : PE X e te) : PE X (.Subscript e (.Slice none none (some (.UnaryOp .USub (.Constant (.int 1) k p1) p2)) p3) pos) (tRevT X.K te) := by
  refine ⟨fun pins s σ H Q I h => Subscript_ (thn (he.run pins s σ H _ I h) fun v s1 ⟨x, H1, I1, r1, a, xs, ex, hx, q⟩ => ?_)⟩
  subst ex
  cases r1
  have hst : PO X (some (.UnaryOp .USub (.Constant (.int 1) k p1) p2)) (tPart (tUn (rU fun i => .int (-i)) (tC (.int 1)))) := po_some (pe_un un_neg pe_int)
  refine wpAny_Slice (thn (po_none.run pins s1 σ H1 (fun o H2 => o = none ∧ H2 = H1) I1 ⟨rfl, rfl⟩) fun vl s2 ⟨l, H2, I2, pl, el, e2⟩ => ?_)
  subst el e2
  refine thn (po_none.run pins s2 σ H2 (fun o H3 => o = none ∧ H3 = H2) I2 ⟨rfl, rfl⟩) fun vu s3 ⟨u, H3, I3, pu, eu, e3⟩ => ?_
  subst eu e3
  refine thn (hst.run pins s3 σ H3 (fun o H4 => o = some (-1) ∧ H4 = H3) I3 ⟨1, rfl, -1, rfl, rfl, rfl⟩) fun vs s4 ⟨o, H4, I4, ps, eo, e4⟩ => ?_
  subst eo e4
  cases pl
  cases pu
  have I5 : Inv X pins σ H4 { s4 with heap := s4.heap.push { cls := .type "slice", data := .fields #[.none, .none, vs] } } := I4.kept (t' := s4.toks) fun b ob q => Heap.get?_push_of_some _ q
  obtain ⟨its, r, ht, hz⟩ := I5.tuple hx
  have hlen := r.length
  show wpAny (model X.prog X.w) X.A (subscriptTail e (.Slice none none (some (.UnaryOp .USub (.Constant (.int 1) k p1) p2)) p3) (.ref a) (.ref s4.heap.objs.size)) (EP X pins σ Q) X.xe { s4 with heap := s4.heap.push { cls := .type "slice", data := .fields #[.none, .none, vs] } }
  refine tail_any (ops := [.ref a, .ref s4.heap.objs.size]) ht.typeIs (PyProof.Rows.slot_tuple_getitem.lookup) ?_ (by with_unfolding_all rfl)
  refine getItem_tuple_back ht (Heap.IsSliceOf.new _ .none .none vs) ps ?_ (by omega)
  refine ⟨.ref _, _, I5.laid (t' := s4.toks) (o := .tup xs.reverse) (fun b ob q => Heap.get?_push_of_some _ q) (Nat.le_refl _) ?_, rfl, q _ (I5.hok.fresh (Nat.le_refl _))⟩
  exact ⟨by rw [List.length_reverse]; exact hz, _, r.reverse, IsTup.new _ _⟩
end
end Pr
namespace K14
open PySem PySem.Spec PyProof.Rows L2 Pr
theorem scNo : FnScope ["panel"] ["panel"] (defScope sNo) := ⟨rfl, rfl, rfl, by decide +kernel, rfl, by decide +kernel, by decide +kernel⟩
theorem scPressE : FnScope ["panel", "button", "words", "other"] ["panel", "button"] (defScope sPressE) := ⟨rfl, rfl, rfl, by decide +kernel, rfl, by decide +kernel, by decide +kernel⟩
def nJoin : List Str := ["first", "second", "early", "late"]
theorem scJoin : FnScope nJoin ["first", "second"] (defScope sJoin) := ⟨rfl, rfl, rfl, by decide +kernel, rfl, by decide +kernel, by decide +kernel⟩
section
variable {P : Program} {w : World} {K : PySem.W.Frag} {mg : Str → Option Value} {base : Heap}
def spNo (K : PySem.W.Frag) : Sp := fun vs H Q _ => ∃ (p : Addr) (pan : List (List Int)), vs = [.ref p] ∧ PanT K H p pan ∧ Good pan ∧
  ∀ H' t, Same H H' → H' t = some (.tup ((effM pan []).map V.str)) → Q (.ref t) H'
theorem ok_no {f : Addr} {fd : FuncData} {k : Nat} (F : Fun K "no_effect" "no_effect" sNo f fd) (ml : mg "len" = none) : FnOk P w K mg base CX0 (k + 1) f fd ["panel"] (spNo K) := by
  refine F.ok scNo (fun vs H Q E h => ?_) (fun cdv A outer s H vs Q E hr h => ?_)
  · obtain ⟨p, pan, rfl, _⟩ := h
    rfl
  · obtain ⟨p, pan, rfl, hp, hg, q⟩ := h
    refine ⟨_, pss_one (ps_ret (pe_op op_repS (pe_tup (pa_cons pe_str pa_nil)) (pe_callB call_len_seq (by rfl) ml PySem.boot_len (pa_cons (pv 0) pa_nil)))), ?_⟩
    obtain ⟨qs, hq, hqs⟩ := id hp
    have hl : (qs.map V.ref).length = pan.length := by rw [List.length_map, hqs.length]
    have few := hg.few
    have pos := hg.pos
    refine ⟨by show 1 ≤ sizeLine; decide, fun T nT => ?_⟩
    have sT : Same H (upd H T (.tup [.str wSame])) := same_new nT
    refine ⟨.ref p, rfl, p, _, rfl, .inr (same_sqT sT hq), ?_⟩
    rw [hl]
    by_cases e : pan.length = 1
    · refine .inl ⟨T, .str wSame, rfl, .inl (.inl upd_same), .inl ⟨by rw [e]; rfl, q _ T sT ?_⟩⟩
      rw [upd_same, effM_nil, e]; rfl
    · refine .inr ⟨T, (pan.length : Int), _, rfl, rfl, .inl (.inl upd_same), by simp, by omega, by omega, by show 1 ≤ 1000; decide, fun t nt => q _ t (sT.trans (same_new nt)) ?_⟩
      rw [upd_same, rep_flat, effM_nil, List.map_replicate, Int.toNat_natCast]

def spPressE (K : PySem.W.Frag) : Sp := fun vs H Q _ => ∃ (p : Addr) (pan : List (List Int)) (b : Int), vs = [.ref p, .int b] ∧ PanT K H p pan ∧ Good pan ∧ 0 ≤ b ∧ b < (pan.length : Int) ∧
  ∀ H' t, Same H H' → H' t = some (.tup ((pressW pan b).map V.str)) → Q (.ref t) H'
theorem ok_pressE {f fN : Addr} {fd fdN : FuncData} {k : Nat} (F : Fun K "press_effect" "press_effect" sPressE f fd) (FN : Fun K "no_effect" "no_effect" sNo fN fdN) (bN : Binds K fdN ["panel"] []) (gN : mg "no_effect" = some (.ref fN))
    (ml : mg "len" = none) (mli : mg "list" = none) (mt : mg "tuple" = none) : FnOk P w K mg base CX0 (k + 2) f fd ["panel", "button"] (spPressE K) := by
  have GN : FnOk P w K mg base CX0 (k + 1) fN fdN ["panel"] (spNo K) := ok_no FN ml
  refine F.ok scPressE (fun vs H Q E h => ?_) (fun cdv A outer s H vs Q E hr h => ?_)
  · obtain ⟨p, pan, b, rfl, _⟩ := h
    rfl
  · obtain ⟨p, pan, b, rfl, hp, hg, b0, b1, q⟩ := h
    refine ⟨_, pss_cons (ps_set (i := 2) scPressE.nd rfl (.inl rfl) (pe_callTy call_list_of (by rfl) mli (by decide +kernel) (pa_cons (pe_call GN hr (by rfl) gN FN.kp bN .nil pass0 (pa_cons (pv 0) pa_nil)) pa_nil)))
      (pss_cons (ps_asg pe_str (pg_sub (pv 2) (pv 1) set_list))
      (pss_cons (ps_for PassesOwn.never rfl (pi_tup (pe_ix ix_tup (pv 0) (pv 1) (fun _ _ => rfl))) (pg_name (i := 3) scPressE.nd rfl (.inl rfl))
        (pss_one (ps_asg pe_str (pg_sub (pv 2) (pv 3) set_list))))
      (pss_one (ps_ret (pe_callTy call_tuple_of (by rfl) mt (by decide +kernel) (pa_cons (pv 2) pa_nil)))))), ?_⟩
    refine ⟨.ref p, rfl, p, pan, rfl, hp, hg, fun H1 t s1 et => ?_⟩
    refine ⟨t, _, rfl, .inr (.inl (.inl et)), fun W nW => ?_⟩
    have s2 : Same H (upd H1 W (.lst ((effM pan []).map V.str))) := s1.trans (same_new nW)
    have nW' : H W = none := s1.free nW
    obtain ⟨bn, rfl⟩ : ∃ bn : Nat, b = (bn : Int) := ⟨b.toNat, (Int.toNat_of_nonneg b0).symm⟩
    have hbn : bn < pan.length := by omega
    refine ⟨.ref W, rfl, .int (bn : Int), rfl, W, _, _, bn, rfl, rfl, upd_same, ixN_nat (by rw [List.length_map, effM_len]; exact hbn), ?_⟩
    obtain ⟨qs, q', hq, ha, hr', _⟩ := panT_at hp (b := (bn : Int)) b0 b1
    have s3 : Same H (upd (upd H1 W (.lst ((effM pan []).map V.str))) W (.lst (((effM pan []).map V.str).set bn (.str wOn)))) := fun x o e => by
      rw [upd_ne (ne_of_none e nW')]; exact s2 _ _ e
    refine ⟨.ref p, rfl, .int (bn : Int), rfl, p, _, _, .ref q', rfl, rfl, same_sqT s3 hq, ha, q', rfl, ⟨_, same_sqT s3 hr'⟩, ?_⟩
    generalize hl0 : pan.getD ((bn : Int)).toNat [] = l at hr'
    have hin : ∀ x ∈ l, 0 ≤ x ∧ x < (pan.length : Int) := fun x hx => by
      rw [← hl0, Int.toNat_natCast, List.getD_eq_getElem?_getD, List.getElem?_eq_getElem hbn] at hx
      exact hg.rng _ (List.getElem_mem hbn) x hx
    refine for_tup (xs := l.map V.int) (fun i σ H4 => Same H H4 ∧ H4 W = some (.lst (((List.range pan.length).map (onM (l.take i) (bn : Int))).map V.str)) ∧ ∃ x3, σ = [some (.ref p), some (.int (bn : Int)), some (.ref W), x3])
      ⟨s3, ?_, none, rfl⟩ (fun i σ H4 _ hP => same_sqT hP.1 hr') (fun i x σ H4 hx hP => ?_) (fun σ H4 hP => ?_)
    · rw [upd_same, effM_nil, replicate_map_range, List.map_map, set_map_range, List.map_map]
      refine congrArg _ (congrArg _ (List.map_congr_left fun c _ => ?_))
      show (if c = bn then V.str wOn else V.str wSame) = V.str (onM [] (bn : Int) c)
      unfold onM
      have e0 : ¬ ((c : Int) ∈ ([] : List Int)) := by simp
      by_cases e : c = bn
      · have e1 : (c : Int) = (bn : Int) := by omega
        rw [if_pos e, if_neg e0, if_pos e1]
      · have e1 : ¬ (c : Int) = (bn : Int) := by omega
        rw [if_neg e, if_neg e0, if_neg e1]
    · obtain ⟨s4, eW, x3, rfl⟩ := hP
      obtain ⟨z, hz, rfl⟩ := int_get hx
      have hzr := hin z (List.mem_of_getElem? hz)
      obtain ⟨zn, rfl⟩ : ∃ zn : Nat, z = (zn : Int) := ⟨z.toNat, (Int.toNat_of_nonneg hzr.1).symm⟩
      refine ⟨.ref W, rfl, .int (zn : Int), rfl, W, _, _, zn, rfl, rfl, eW, ixN_nat (by rw [List.length_map, List.length_map, List.length_range]; omega), ?_, ?_, _, rfl⟩
      · intro b o e
        rw [upd_ne (ne_of_none e nW')]; exact s4 _ _ e
      · rw [upd_same, List.map_map, set_map_range, List.map_map]
        refine congrArg _ (congrArg _ (List.map_congr_left fun c _ => ?_))
        show (if c = zn then V.str wOff else V.str (onM (l.take i) (bn : Int) c)) = V.str (onM (l.take (i + 1)) (bn : Int) c)
        unfold onM
        rw [List.take_add_one, hz]
        by_cases e : c = zn
        · rw [if_pos e, if_pos (by rw [e]; simp)]
        · have hne : (c : Int) ≠ (zn : Int) := by omega
          rw [if_neg e]
          congr 1
          by_cases e2 : (c : Int) ∈ l.take i
          · rw [if_pos e2, if_pos (List.mem_append_left _ e2)]
          · rw [if_neg e2, if_neg fun h => (List.mem_append.mp h).elim e2 fun h => hne (by simpa using h)]
    · obtain ⟨s4, eW, x3, rfl⟩ := hP
      rw [List.length_map, List.take_length] at eW
      refine ⟨.ref W, rfl, W, _, rfl, .inl ⟨.inl (.inl eW), fun t nt => q _ t (s4.trans (same_new nt)) ?_⟩⟩
      rw [upd_same]
      unfold pressW
      rw [hl0]

def spJoin (K : PySem.W.Frag) : Sp := fun vs H Q _ => ∃ (a b : Addr) (xs ys : List Str), vs = [.ref a, .ref b] ∧ SqT K H a (xs.map V.str) ∧ SqT K H b (ys.map V.str) ∧ xs.length = ys.length ∧ ys.length ≤ 100 ∧
  ∀ H' t, Same H H' → H' t = some (.tup ((joinM xs ys).map V.str)) → Q (.ref t) H'
theorem ok_join {f : Addr} {fd : FuncData} {k : Nat} (F : Fun K "joined_effect" "joined_effect" sJoin f fd) (mz : mg "zip" = none) (mt : mg "tuple" = none) : FnOk P w K mg base CX0 (k + 1) f fd ["first", "second"] (spJoin K) := by
  refine F.ok scJoin (fun vs H Q E h => ?_) (fun cdv A outer s H vs Q E hr h => ?_)
  · obtain ⟨a, b, xs, ys, rfl, _⟩ := h
    rfl
  · obtain ⟨a, b, xs, ys, rfl, ha, hb, hl, few, q⟩ := h
    refine ⟨_, pss_one (ps_ret (pe_callTy call_tuple_of (by rfl) mt (by decide +kernel) (pa_cons
      (pe_lc (own := [("early", 2), ("late", 3)]) (g := gTup K 2 (gCons (gName 2) (gCons (gName 3) gNil))) (tt := tYes) rfl scJoin.nd (RZ.pi_zipA (by rfl) mz (pa_cons (pv 0) (pa_cons (pv 1) pa_nil)))
        (blkOk_by (own := [("early", 2), ("late", 3)]) (N := nJoin) (sc := defScope sJoin) (by decide +kernel))
        (fun _ _ _ _ _ => pg_tup rfl (pgs_cons (pg_name (i := 2) scJoin.nd rfl (Or.inl rfl)) (pgs_cons (pg_name (i := 3) scJoin.nd rfl (Or.inl rfl)) pgs_nil)))
        (fun _ _ _ _ _ => pts_nil)
        (fun _ _ _ _ _ => pe_ifExp (pt_cmpR op_eq (pv 3) pe_str (nomark _)) (pv 2) (pv 3))) pa_nil))), ?_⟩
    refine ⟨.ref a, rfl, .ref b, rfl, a, b, _, _, rfl, .inr ⟨ha, hb, fun D nD => ?_⟩⟩
    have hjl := joinM_len hl
    refine lc_it (walk_zipT (n := ys.length) (xs := xs.map V.str) (ys := ys.map V.str) (by rw [List.length_map, List.length_map, hl, Nat.min_self])) (fun i H3 => Same H H3 ∧ H3 D = some (.lst (((joinM xs ys).take i).map V.str))) ⟨same_new nD, upd_same⟩
      (fun i H3 _ hP => ⟨same_sqT hP.1 ha, same_sqT hP.1 hb⟩) (fun i x H3 H4 hi hP hY => ?_) (fun H3 hP => ?_)
    · obtain ⟨s3, eD⟩ := hP
      obtain ⟨T, x1, x2, rfl, nT, rfl, e1, e2⟩ := hY
      obtain ⟨y1, f1, rfl⟩ := str_get e1
      obtain ⟨y2, f2, rfl⟩ := str_get e2
      have sT : Same H3 (upd H3 T (.tup [.str y1, .str y2])) := same_new nT
      have eD4 := sT _ _ eD
      have g := joinM_get f1 f2
      have fin : ∀ v : V, v = .str (if y2 = wSame then y1 else y2) → ∃ acc, (upd H3 T (.tup [.str y1, .str y2])) D = some (.lst acc) ∧ acc.length < sizeLine ∧ Same H (upd (upd H3 T (.tup [.str y1, .str y2])) D (.lst (acc ++ [v]))) ∧
          (upd (upd H3 T (.tup [.str y1, .str y2])) D (.lst (acc ++ [v]))) D = some (.lst (((joinM xs ys).take (i + 1)).map V.str)) := by
        intro v hv
        refine ⟨_, eD4, ?_, ?_, ?_⟩
        · rw [List.length_map, List.length_take]; exact small1000 (by omega)
        · intro b' o e
          rw [upd_ne (ne_of_none e nD)]
          exact sT _ _ (s3 _ _ e)
        · rw [upd_same, List.take_add_one, g, List.map_append, hv]; rfl
      refine ⟨T, _, rfl, .inl (.inl upd_same), rfl, _, _, rfl, _, _, rfl, rfl, rfl, tyes (iteT ⟨.str y2, rfl, rfl, _, rfl, ite2 (fun e => ?_) (fun e => ?_)⟩)⟩
      · have e' : y2 = wSame := V.str.inj (of_decide_eq_true e)
        exact ⟨.str y1, rfl, fin _ (by rw [if_pos e'])⟩
      · have e' : y2 ≠ wSame := fun z => e (by rw [z]; exact decide_eq_true rfl)
        exact ⟨.str y2, rfl, fin _ (by rw [if_neg e'])⟩
    · obtain ⟨s3, eD⟩ := hP
      rw [List.take_of_length_le (by rw [hjl]; exact Nat.le_refl _)] at eD
      refine ⟨D, _, rfl, .inl ⟨.inl (.inl eD), fun t nt => ?_⟩⟩
      exact q _ t (s3.trans (same_new nt)) upd_same

end
end K14
/-! The last press of each button; dict comprehensions over any walk; numbers of any sign shown. -/
namespace Pr
open PySem PySem.Spec PyProof.Rows L2
def plainM : List Int → List Int
  | [] => []
  | x :: r => if x ∈ r then plainM r else x :: plainM r
theorem plainM_mem : ∀ {l : List Int} {x : Int}, x ∈ plainM l ↔ x ∈ l
  | [], x => Iff.rfl
  | y :: r, x => by
    rw [plainM]
    by_cases h : y ∈ r
    · rw [if_pos h, plainM_mem, List.mem_cons]
      exact ⟨.inr, fun z => z.elim (fun e => e ▸ h) id⟩
    · rw [if_neg h, List.mem_cons, List.mem_cons, plainM_mem]
theorem plainM_nodup : ∀ l : List Int, (plainM l).Nodup
  | [] => List.nodup_nil
  | y :: r => by
    rw [plainM]
    by_cases h : y ∈ r
    · rw [if_pos h]; exact plainM_nodup r
    · rw [if_neg h, List.nodup_cons]
      exact ⟨fun z => h (plainM_mem.mp z), plainM_nodup r⟩
theorem plainM_of_nodup : ∀ {l : List Int}, l.Nodup → plainM l = l
  | [], _ => rfl
  | y :: r, h => by
    rw [List.nodup_cons] at h
    rw [plainM, if_neg h.1, plainM_of_nodup h.2]
theorem plainM_twice (l : List Int) : plainM (plainM l) = plainM l := plainM_of_nodup (plainM_nodup l)
theorem plainM_len : ∀ l : List Int, (plainM l).length ≤ l.length
  | [] => Nat.le_refl _
  | y :: r => by
    rw [plainM]
    have := plainM_len r
    by_cases h : y ∈ r
    · rw [if_pos h, List.length_cons]; omega
    · rw [if_neg h, List.length_cons, List.length_cons]; omega
theorem plainM_drop {l : List Int} {i : Nat} {x : Int} (h : l[i]? = some x) : plainM (l.drop i) = if x ∈ l.drop (i + 1) then plainM (l.drop (i + 1)) else x :: plainM (l.drop (i + 1)) := by
  obtain ⟨hi, rfl⟩ := List.getElem?_eq_some_iff.mp h
  rw [List.drop_eq_getElem_cons hi, plainM]
/-- kvs holds the last place of each of the first i -/
def LastAt (row : List Int) (i : Nat) (kvs : List (Key × V)) : Prop :=
  ∀ x : Int, x ∈ row.take i → ∃ j : Nat, row[j]? = some x ∧ j < i ∧ (∀ m, j < m → m < i → row[m]? ≠ some x) ∧ valV kvs (Sum.inl x) = some (.int (j : Int))
theorem LastAt.nil (row : List Int) (kvs : List (Key × V)) : LastAt row 0 kvs := fun x h => by simp at h
theorem LastAt.put {row : List Int} {i : Nat} {kvs : List (Key × V)} {z : Int} (h : LastAt row i kvs) (hz : row[i]? = some z) : LastAt row (i + 1) (putK kvs (Sum.inl z) (.int (i : Int))) := by
  intro x hx
  rw [List.take_add_one, hz] at hx
  by_cases e : x = z
  · subst e
    refine ⟨i, hz, Nat.lt_succ_self _, fun m h1 h2 => by omega, ?_⟩
    rw [valV_put, if_pos rfl]
  · have hx' : x ∈ row.take i := (List.mem_append.mp hx).elim id fun q => absurd (by simpa using q) e
    obtain ⟨j, h1, h2, h3, h4⟩ := h x hx'
    refine ⟨j, h1, by omega, fun m g1 g2 g3 => ?_, ?_⟩
    · by_cases em : m = i
      · subst em
        rw [hz] at g3
        exact e (Option.some.inj g3).symm
      · exact h3 m g1 (by omega) g3
    · rw [valV_put, if_neg (fun q => e (Sum.inl.inj q)), h4]
theorem LastAt.is {row : List Int} {kvs : List (Key × V)} {i : Nat} {z : Int} (h : LastAt row row.length kvs) (hz : row[i]? = some z) :
    ∃ j : Nat, valV kvs (Sum.inl z) = some (.int (j : Int)) ∧ (j = i ↔ z ∉ row.drop (i + 1)) := by
  have hi : i < row.length := (List.getElem?_eq_some_iff.mp hz).1
  obtain ⟨j, h1, h2, h3, h4⟩ := h z (by rw [List.take_length]; exact List.mem_of_getElem? hz)
  refine ⟨j, h4, fun e hm => ?_, fun hn => ?_⟩
  · subst e
    obtain ⟨k, hk⟩ := List.getElem?_of_mem hm
    rw [List.getElem?_drop] at hk
    have hk2 := (List.getElem?_eq_some_iff.mp hk).1
    exact h3 (j + 1 + k) (by omega) hk2 hk
  · rcases Nat.lt_trichotomy j i with q | q | q
    · exact absurd hz (h3 i q hi)
    · exact q
    · refine absurd ?_ hn
      refine List.mem_of_getElem? (i := j - (i + 1)) ?_
      rw [List.getElem?_drop, show i + 1 + (j - (i + 1)) = j by omega]; exact h1
/-- a dict comprehension over a walk: Pv by the turn and the heap (the new dict at D within) -/
theorem dc_it {J : It} {n : Nat} {G : Hp → Prop} {Y : Nat → Hp → V → Hp → Prop} (w : Walk J n G Y) {g : TG} {tt : TT} {tk tv : TE} {vs : List Nat} {σ : L2.St} {H1 : Hp} {D : Addr} {Qd : Hp → Prop} (Pv : Nat → Hp → Prop)
    (h0 : Pv 0 (upd H1 D (.dK []))) (hG : ∀ i H, i ≤ n → Pv i H → G H)
    (hs : ∀ i x H H', i < n → Pv i H → Y i H x H' → g x (wipe σ vs) H' fun σ2 H2 => wipe σ2 vs = wipe σ vs ∧ tt σ2 H2 fun b H3 => if b = true then tk σ2 H3 fun y H4 => tv σ2 H4 fun z H5 =>
      ∃ kvs k, y = kV k ∧ H5 D = some (.dK kvs) ∧ kvs.length < sizeLine ∧ Pv (i + 1) (upd H5 D (.dK (putK kvs k z))) else Pv (i + 1) H3)
    (hd : ∀ H, Pv n H → Qd H) :
    ∃ W : Nat → Nat → Hp → Prop, (∃ m, W 0 m (upd H1 D (.dK []))) ∧ ∀ i m H, W i m H → (J.stop i H ∧ Qd H) ∨ (J.go i H ∧ ∃ Nx : Hp → Prop, (∀ H', Nx H' → ∃ m', m' < m ∧ W (i + 1) m' H') ∧
      ∀ x H', J.yld i H x H' → g x (wipe σ vs) H' fun σ2 H2 => wipe σ2 vs = wipe σ vs ∧ tt σ2 H2 fun b H3 => if b = true then tk σ2 H3 fun y H4 => tv σ2 H4 fun z H5 =>
        ∃ kvs k, y = kV k ∧ H5 D = some (.dK kvs) ∧ kvs.length < sizeLine ∧ Nx (upd H5 D (.dK (putK kvs k z))) else Nx H3) := by
  refine ⟨fun i m H => (i ≤ n ∧ m = n - i) ∧ Pv i H, ⟨n, ⟨Nat.zero_le _, (Nat.sub_zero n).symm⟩, h0⟩, ?_⟩
  intro i m H hW
  obtain ⟨⟨hi, rfl⟩, hP⟩ := hW
  have hGH := hG i H hi hP
  rcases Nat.lt_or_ge i n with hlt | hge
  · exact .inr ⟨w.goes i H hlt hGH, Pv (i + 1), fun H' p' => ⟨n - (i + 1), by omega, ⟨hlt, rfl⟩, p'⟩, fun x H' y => hs i x H H' hlt hP (w.yields i H x H' hlt hGH y)⟩
  · obtain rfl : i = n := by omega
    exact .inl ⟨w.stops H hGH, hd H hP⟩
theorem sqT_but3 {K : PySem.W.Frag} {H H' : Hp} {a c r p : Addr} {m : Nat} {xs : List V} (d : Dk3 H a c r m) (b : But a r H H') (h : SqT K H p xs) : SqT K H' p xs := by
  rcases h with (h | ⟨o, h⟩) | h
  · exact .inl (.inl (tup_but3 d b h))
  · have q := d.apart h (fun _ => by intro z; cases z)
    exact .inl (.inr ⟨o, b _ _ q.1 q.2 h⟩)
  · exact .inr h
theorem Shw.intA {i : Int} {k : Nat} (hk : 0 < k) (hk2 : k ≤ 100) (h : i.natAbs < 10 ^ k) : Shw 0 (k + 1) (.int i) := by
  by_cases h0 : 0 ≤ i
  · have h1 : i < 10 ^ k := by
      have e : ((i.natAbs : Nat) : Int) = i := Int.natAbs_of_nonneg h0
      have : ((i.natAbs : Nat) : Int) < ((10 ^ k : Nat) : Int) := by exact_mod_cast h
      rw [e, Int.natCast_pow] at this
      exact this
    exact (Shw.int h0 hk hk2 h1).mono (Nat.le_refl _) (Nat.le_succ _)
  · have hn : (0 : Int) ≤ -i := by omega
    have h1 : -i < 10 ^ k := by
      have e : ((i.natAbs : Nat) : Int) = -i := by omega
      have : ((i.natAbs : Nat) : Int) < ((10 ^ k : Nat) : Int) := by exact_mod_cast h
      rw [e, Int.natCast_pow] at this
      exact this
    have p := Shw.int hn hk hk2 h1
    refine ⟨?_, by simp only [PyData.hasDict], by simp [PyData.depth], ?_⟩
    · have := p.sh
      simp only [PyData.showable, decide_eq_true_eq] at this ⊢
      rw [Int.natAbs_neg] at this
      exact this
    · have := p.ln
      simp only [PyData.shown] at this ⊢
      obtain ⟨m, rfl⟩ : ∃ m : Nat, i = Int.negSucc m := by
        cases i with
        | ofNat m => exact absurd (Int.natCast_nonneg m) h0
        | negSucc m => exact ⟨m, rfl⟩
      have e1 : toString (Int.negSucc m) = "-" ++ toString (m + 1) := rfl
      have e2 : toString (-(Int.negSucc m)) = toString (m + 1) := rfl
      rw [e2, PyProof.Rows.ofString_length] at this
      rw [e1, PyProof.Rows.ofString_length, String.toList_append, List.length_append]
      have e3 : ("-" : String).toList.length = 1 := rfl
      omega
theorem shw_big {l : List Int} {m : Nat} (hl : l.length ≤ m) (h : ∀ x ∈ l, x.natAbs < 10 ^ 40) : Shw 1 (m * 43 + 3) (dInts l) := by
  refine Shw.tuple (fun d hd => ?_) (by rw [List.length_map]; exact hl)
  obtain ⟨x, hx, rfl⟩ := List.mem_map.mp hd
  exact Shw.intA (by decide) (by decide) (h x hx)
end Pr
/-! What repr writes of tuples of ints is a text of plain signs. -/
namespace Pr
open PySem PySem.Spec PyProof.Rows L2
theorem ok_app {a b : Str} (ha : PyData.strOk a = true) (hb : PyData.strOk b = true) : PyData.strOk (a ++ b) = true := by
  unfold PyData.strOk at ha hb ⊢
  show (a.cps ++ b.cps).all _ = true
  rw [Array.all_append, ha, hb]; rfl
theorem ok_of (s : String) : PyData.strOk (Str.ofString s) = true := by
  unfold PyData.strOk
  rw [Str.ofString_eq_toList, Array.all_eq_true_iff_forall_mem]
  intro x hx
  rw [List.mem_toArray, List.mem_map] at hx
  obtain ⟨c, _, rfl⟩ := hx
  rw [decide_eq_true_eq]
  have := c.valid
  rcases this with h | h
  · exact Nat.lt_trans h (by decide)
  · exact h.2
theorem ok_join {sep : Str} (hs : PyData.strOk sep = true) : ∀ {ts : List Str}, (∀ t ∈ ts, PyData.strOk t = true) → PyData.strOk (Str.join sep ts) = true
  | [], _ => by show PyData.strOk Str.empty = true; decide +kernel
  | [x], h => h x List.mem_cons_self
  | x :: y :: r, h => by
    show PyData.strOk (x ++ sep ++ Str.join sep (y :: r)) = true
    exact ok_app (ok_app (h x List.mem_cons_self) hs) (ok_join hs fun t ht => h t (List.mem_cons_of_mem _ ht))
theorem ok_ints (l : List Int) : PyData.strOk (dInts l).shown = true := by
  unfold dInts
  simp only [PyData.shown]
  rw [shownAll_map]
  unfold tupleText
  refine ok_app (ok_app (ok_of "(") (ok_join (ok_of ", ") fun t ht => ?_)) ?_
  · rw [List.map_map] at ht
    obtain ⟨i, _, rfl⟩ := List.mem_map.mp ht
    show PyData.strOk (PyData.shown (.int i)) = true
    simp only [PyData.shown]
    exact ok_of _
  · split
    · exact ok_of ",)"
    · exact ok_of ")"
theorem lay_strs {x y : Str} (hx : PyData.strOk x = true) (hy : PyData.strOk y = true) : (PyData.list [.str x, .str y]).canLay0 = true := by
  simp only [PyData.canLay0, PyData.canLayAll0, hx, hy, Bool.and_self]
theorem shp_of {d : PyData} (h : d.canLay0 = true) (hd : d.depth ≤ 64) : SeqAt.shaped d = true := by
  unfold SeqAt.shaped
  rw [h, decide_eq_true hd]; rfl
end Pr
/-! Rows for effects: what a press ahead adds, and that one may be chosen as one likes. -/
namespace Pr
open PySem PySem.Spec PyProof.Rows L2
theorem foldl_word (pan : List (List Int)) (c : Int) : ∀ (row : List Int) (w : Str), row.foldl (wordM pan c) w = if row.foldl (wordM pan c) wSame = wSame then w else row.foldl (wordM pan c) wSame
  | [], w => by
    show w = if wSame = wSame then w else wSame
    rw [if_pos rfl]
  | b :: r, w => by
    rw [List.foldl_cons, List.foldl_cons]
    unfold wordM
    by_cases h1 : b = c
    · rw [if_pos h1, if_pos h1, if_neg fun z => ?_]
      exact same_ne_on ((words_same r wOn).mp z).1.symm
    · rw [if_neg h1, if_neg h1]
      by_cases h2 : c ∈ pan.getD b.toNat []
      · rw [if_pos h2, if_pos h2, if_neg fun z => ?_]
        exact same_ne_off ((words_same r wOff).mp z).1.symm
      · rw [if_neg h2, if_neg h2]
        exact foldl_word pan c r w
theorem words_app (pan : List (List Int)) (r1 r2 : List Int) (c : Int) : wordsM pan (r1 ++ r2) c = if wordsM pan r2 c = wSame then wordsM pan r1 c else wordsM pan r2 c := by
  unfold wordsM
  rw [List.foldl_append, foldl_word]
theorem eff_app (pan : List (List Int)) (r1 r2 : List Int) : effM pan (r1 ++ r2) = joinM (effM pan r1) (effM pan r2) := by
  unfold joinM effM
  rw [List.zipWith_map, List.zipWith_self]
  exact List.map_congr_left fun c _ => words_app pan r1 r2 c
theorem eff_one {pan : List (List Int)} (g : Good pan) {b : Int} (h0 : 0 ≤ b) (h1 : b < (pan.length : Int)) : effM pan [b] = pressW pan b := by
  unfold effM pressW
  refine List.map_congr_left fun c _ => ?_
  have := wordM_join g h0 h1 c wSame
  show wordM pan (c : Int) wSame b = _
  rw [← this]
  by_cases e : onM (pan.getD b.toNat []) b c = wSame
  · rw [if_pos e, e]
  · rw [if_neg e]
theorem eff_cons {pan : List (List Int)} (g : Good pan) {b : Int} (h0 : 0 ≤ b) (h1 : b < (pan.length : Int)) (r : List Int) : effM pan (b :: r) = joinM (pressW pan b) (effM pan r) := by
  rw [show b :: r = [b] ++ r from rfl, eff_app, eff_one g h0 h1]
theorem join_self (xs : List Str) : joinM xs xs = xs := by
  unfold joinM
  rw [List.zipWith_self]
  refine (List.map_congr_left fun x _ => ?_).trans (List.map_id _)
  split <;> rfl
theorem words_iff {pan : List (List Int)} {row : List Int} {c : Int} : wordsM pan row c = wSame ↔ ¬ metB pan row c := by
  unfold wordsM
  rw [words_same]
  exact ⟨fun h => h.2, fun h => ⟨rfl, h⟩⟩
theorem met_app {pan : List (List Int)} {r1 r2 : List Int} {c : Int} : metB pan (r1 ++ r2) c ↔ metB pan r1 c ∨ metB pan r2 c := by
  unfold metB
  constructor
  · rintro (h | ⟨b, h1, h2⟩)
    · exact (List.mem_append.mp h).elim (fun q => .inl (.inl q)) fun q => .inr (.inl q)
    · exact (List.mem_append.mp h1).elim (fun q => .inl (.inr ⟨b, q, h2⟩)) fun q => .inr (.inr ⟨b, q, h2⟩)
  · rintro ((h | ⟨b, h1, h2⟩) | (h | ⟨b, h1, h2⟩))
    · exact .inl (List.mem_append_left _ h)
    · exact .inr ⟨b, List.mem_append_left _ h1, h2⟩
    · exact .inl (List.mem_append_right _ h)
    · exact .inr ⟨b, List.mem_append_right _ h1, h2⟩
theorem eff_plain {pan : List (List Int)} : ∀ row : List Int, effM pan (plainM row) = effM pan row
  | [] => rfl
  | b :: r => by
    rw [plainM]
    by_cases h : b ∈ r
    · rw [if_pos h, eff_plain r, show b :: r = [b] ++ r from rfl, eff_app]
      unfold joinM effM
      rw [List.zipWith_map, List.zipWith_self]
      refine List.map_congr_left fun c _ => ?_
      by_cases e : wordsM pan r (c : Int) = wSame
      · rw [if_pos e, e]
        refine (words_iff.mpr fun hm => words_iff.mp e ?_).symm
        rcases hm with q | ⟨d, q1, q2⟩
        · rw [List.mem_singleton.mp q]; exact .inl h
        · rw [List.mem_singleton.mp q1] at q2; exact .inr ⟨b, h, q2⟩
      · rw [if_neg e]
    · rw [if_neg h, show b :: plainM r = [b] ++ plainM r from rfl, show b :: r = [b] ++ r from rfl, eff_app, eff_app, eff_plain r]
/-! ### a part of an effect -/
def partB (e v : List Str) : Bool := (List.zipWith (fun a b => decide (a = wSame ∨ a = b)) e v).all id
theorem part_iff : ∀ {e v : List Str}, e.length = v.length → (partB e v = true ↔ ∀ (c : Nat) (x y : Str), e[c]? = some x → v[c]? = some y → x = wSame ∨ x = y)
  | [], [], _ => ⟨(fun _ c x y h => by cases h), fun _ => rfl⟩
  | a :: e, b :: v, hl => by
    have ih := part_iff (e := e) (v := v) (by simpa using hl)
    unfold partB at ih ⊢
    rw [List.zipWith_cons_cons, List.all_cons, Bool.and_eq_true, ih]
    constructor
    · rintro ⟨h1, h2⟩ c x y hx hy
      match c, hx, hy with
      | 0, hx, hy => cases hx; cases hy; exact of_decide_eq_true h1
      | c + 1, hx, hy => exact h2 c x y hx hy
    · intro h
      exact ⟨decide_eq_true (h 0 a b rfl rfl), fun c x y hx hy => h (c + 1) x y hx hy⟩
theorem eff_get {pan : List (List Int)} {row : List Int} {c : Nat} (hc : c < pan.length) : (effM pan row)[c]? = some (wordsM pan row (c : Int)) := by
  unfold effM
  rw [List.getElem?_map, List.getElem?_range hc]; rfl
theorem part_eff {pan : List (List Int)} {row : List Int} {v : List Str} (hv : v.length = pan.length) : partB (effM pan row) v = true ↔ ∀ (c : Nat) (y : Str), v[c]? = some y → wordsM pan row (c : Int) = wSame ∨ wordsM pan row (c : Int) = y := by
  rw [part_iff (by rw [effM_len, hv])]
  constructor
  · intro h c y hy
    have hc : c < pan.length := by have := (List.getElem?_eq_some_iff.mp hy).1; omega
    exact h c _ y (eff_get hc) hy
  · intro h c x y hx hy
    have hc : c < pan.length := by have := (List.getElem?_eq_some_iff.mp hy).1; omega
    rw [eff_get hc] at hx
    obtain rfl := Option.some.inj hx
    exact h c y hy
theorem eff_ext {pan : List (List Int)} {r1 r2 : List Int} (h : ∀ c : Nat, c < pan.length → wordsM pan r1 (c : Int) = wordsM pan r2 (c : Int)) : effM pan r1 = effM pan r2 := by
  unfold effM
  exact List.map_congr_left fun c hc => h c (List.mem_range.mp hc)
/-- while a part of an effect is not the whole, some press ahead adds to it what is wanted -/
theorem useful {pan : List (List Int)} {t : List Int} : ∀ (r : List Int), partB (effM pan t) (effM pan r) = true → effM pan t ≠ effM pan r → (∀ x ∈ r, 0 ≤ x ∧ x < (pan.length : Int)) →
    ∃ b ∈ r, effM pan (b :: t) ≠ effM pan t ∧ partB (effM pan (b :: t)) (effM pan r) = true := by
  intro r hp hne hr
  classical
  have hp' := (part_eff (by rw [effM_len])).mp hp
  -- the last press that adds
  have cut : ∀ s : List Int, (∀ b ∈ s, effM pan (b :: t) = effM pan t) ∨ ∃ s1 b s2, s = s1 ++ b :: s2 ∧ effM pan (b :: t) ≠ effM pan t ∧ ∀ d ∈ s2, effM pan (d :: t) = effM pan t := by
    intro s
    induction s with
    | nil => exact .inl fun b hb => by cases hb
    | cons x s ih =>
      rcases ih with h | ⟨s1, b, s2, rfl, h2, h3⟩
      · by_cases hx : effM pan (x :: t) = effM pan t
        · exact .inl fun b hb => (List.mem_cons.mp hb).elim (fun e => e ▸ hx) (h b)
        · exact .inr ⟨[], x, s, rfl, hx, h⟩
      · exact .inr ⟨x :: s1, b, s2, rfl, h2, h3⟩
  have quiet : ∀ d, effM pan (d :: t) = effM pan t → ∀ c : Nat, c < pan.length → metB pan [d] (c : Int) → metB pan t (c : Int) := by
    intro d hd c hc hm
    refine Classical.byContradiction fun hn => ?_
    have e1 := eff_get (row := d :: t) hc
    rw [hd, eff_get hc] at e1
    have e2 := Option.some.inj e1
    rw [words_iff.mpr hn] at e2
    exact (words_iff.mp e2.symm) ((met_app (r1 := [d]) (r2 := t)).mpr (.inl hm))
  have spread : ∀ (s : List Int) (c : Int), metB pan s c → ∃ d ∈ s, metB pan [d] c := by
    intro s c hm
    rcases hm with h | ⟨b, h1, h2⟩
    · exact ⟨c, h, .inl (List.mem_singleton.mpr rfl)⟩
    · exact ⟨b, h1, .inr ⟨b, List.mem_singleton.mpr rfl, h2⟩⟩
  rcases cut r with h | ⟨r1, b, r2, rfl, h2, h3⟩
  · refine absurd (eff_ext fun c hc => ?_) hne
    rcases hp' c _ (eff_get hc) with q | q
    · rw [q]
      refine (words_iff.mpr fun hm => ?_).symm
      obtain ⟨d, hd, hm'⟩ := spread r _ hm
      exact words_iff.mp q (quiet d (h d hd) c hc hm')
    · exact q
  · refine ⟨b, List.mem_append_right _ List.mem_cons_self, h2, (part_eff (by rw [effM_len])).mpr fun c y hy => ?_⟩
    have hc : c < pan.length := by have := (List.getElem?_eq_some_iff.mp hy).1; rw [effM_len] at this; exact this
    rw [eff_get hc] at hy
    obtain rfl := Option.some.inj hy
    rw [show b :: t = [b] ++ t from rfl, words_app]
    by_cases e : wordsM pan t (c : Int) = wSame
    · rw [if_pos e]
      by_cases e2 : wordsM pan [b] (c : Int) = wSame
      · exact .inl e2
      · refine .inr ?_
        have n2 : wordsM pan r2 (c : Int) = wSame := words_iff.mpr fun hm => by
          obtain ⟨d, hd, hm'⟩ := spread r2 _ hm
          exact words_iff.mp e (quiet d (h3 d hd) c hc hm')
        rw [words_app, show b :: r2 = [b] ++ r2 from rfl, words_app, if_pos n2, if_neg e2]
    · rw [if_neg e]
      exact .inr ((hp' c _ (eff_get hc)).resolve_left e)
theorem cp_back {α : Type} {p q : α → Bool} : ∀ {l : List α}, (∀ x ∈ l, p x = true → q x = true) → l.countP p = l.countP q → ∀ x ∈ l, q x = true → p x = true
  | [], _, _, x, hx, _ => by cases hx
  | a :: l, h, he, x, hx, hq => by
    have hm := List.countP_mono_left (l := l) (p := p) (q := q) fun y hy => h y (List.mem_cons_of_mem _ hy)
    rw [List.countP_cons, List.countP_cons] at he
    have ha := h a List.mem_cons_self
    by_cases pa : p a = true
    · rw [if_pos pa, if_pos (ha pa)] at he
      rcases List.mem_cons.mp hx with e | e
      · rw [e]; exact pa
      · exact cp_back (fun y hy => h y (List.mem_cons_of_mem _ hy)) (by omega) x e hq
    · rw [if_neg pa] at he
      by_cases qa : q a = true
      · rw [if_pos qa] at he; omega
      · rw [if_neg qa] at he
        rcases List.mem_cons.mp hx with e | e
        · rw [e] at hq; exact absurd hq qa
        · exact cp_back (fun y hy => h y (List.mem_cons_of_mem _ hy)) (by omega) x e hq
/-- a press that adds makes one "same" fewer -/
theorem count_less {pan : List (List Int)} {b : Int} {t : List Int} (h : effM pan (b :: t) ≠ effM pan t) : (effM pan (b :: t)).count wSame < (effM pan t).count wSame := by
  unfold effM
  rw [List.count_eq_countP, List.count_eq_countP, List.countP_map, List.countP_map]
  have mono : ∀ c ∈ List.range pan.length, ((fun x => x == wSame) ∘ fun c : Nat => wordsM pan (b :: t) (c : Int)) c = true → ((fun x => x == wSame) ∘ fun c : Nat => wordsM pan t (c : Int)) c = true := by
    intro c _ hc
    have h1 : wordsM pan (b :: t) (c : Int) = wSame := by simpa using hc
    have h2 : wordsM pan t (c : Int) = wSame := words_iff.mpr fun hm => words_iff.mp h1 ((met_app (r1 := [b]) (r2 := t)).mpr (.inr hm))
    simpa using h2
  refine Nat.lt_of_le_of_ne (List.countP_mono_left mono) fun e => h (eff_ext fun c hc => ?_)
  rw [show b :: t = [b] ++ t from rfl, words_app]
  by_cases e2 : wordsM pan t (c : Int) = wSame
  · rw [if_pos e2]
    have back := cp_back mono e
    have := back c (List.mem_range.mpr hc) (by simpa using e2)
    have h1 : wordsM pan (b :: t) (c : Int) = wSame := by simpa using this
    rw [show b :: t = [b] ++ t from rfl, words_app, if_pos e2] at h1
    rw [h1, e2]
  · rw [if_neg e2]
end Pr
namespace Pr
open PySem PySem.Spec PyProof.Rows L2
theorem eqvAll_strs : ∀ xs ys : List Str, PyData.eqvAll (xs.map PyData.str) (ys.map PyData.str) = decide (xs = ys)
  | [], [] => by simp [PyData.eqvAll]
  | [], y :: ys => by simp [PyData.eqvAll]
  | x :: xs, [] => by simp [PyData.eqvAll]
  | x :: xs, y :: ys => by
    rw [List.map_cons, List.map_cons]
    simp only [PyData.eqvAll, PyData.eqv]
    rw [eqvAll_strs xs ys, Bool.eq_iff_iff, Bool.and_eq_true, beq_iff_eq, decide_eq_true_eq, decide_eq_true_eq, List.cons.injEq]
theorem eqv_strs (xs ys : List Str) : PyData.eqv (dStrs xs) (dStrs ys) = decide (xs = ys) := by
  unfold dStrs
  simp only [PyData.eqv]
  exact eqvAll_strs xs ys
theorem word_ok {x : Str} (h : x = wSame ∨ x = wOn ∨ x = wOff) : PyData.strOk x = true := by
  rcases h with rfl | rfl | rfl <;> exact ok_of _
theorem lay_words : ∀ {xs : List Str}, (∀ x ∈ xs, x = wSame ∨ x = wOn ∨ x = wOff) → PyData.canLayAll0 (xs.map PyData.str) = true
  | [], _ => by simp [PyData.canLayAll0]
  | x :: r, h => by
    rw [List.map_cons]
    simp only [PyData.canLayAll0, PyData.canLay0]
    rw [word_ok (h x List.mem_cons_self), lay_words fun y hy => h y (List.mem_cons_of_mem _ hy)]; rfl
theorem depth_strs : ∀ xs : List Str, PyData.depthAll (xs.map PyData.str) = 0
  | [] => by simp [PyData.depthAll]
  | x :: r => by
    rw [List.map_cons]
    simp only [PyData.depthAll, PyData.depth]
    rw [depth_strs r]; rfl
theorem shp_words {xs : List Str} (h : ∀ x ∈ xs, x = wSame ∨ x = wOn ∨ x = wOff) : SeqAt.shaped (dStrs xs) = true := by
  refine shp_of ?_ ?_
  · unfold dStrs; simp only [PyData.canLay0]; exact lay_words h
  · unfold dStrs; simp only [PyData.depth]; rw [depth_strs]; decide
theorem eff_again {pan : List (List Int)} {b : Int} {t : List Int} (h : b ∈ t) : effM pan (b :: t) = effM pan t := by
  rw [← eff_plain (b :: t), plainM, if_pos h, eff_plain]
theorem part_nil {pan : List (List Int)} {v : List Str} (hv : v.length = pan.length) : partB (effM pan []) v = true := (part_eff hv).mpr fun c y _ => .inl rfl
theorem zip_part_take {xs ys : List Str} {i : Nat} {x y : Str} (hx : xs[i]? = some x) (hy : ys[i]? = some y) : (List.zipWith (fun a b => decide (a = wSame ∨ a = b)) xs ys)[i]? = some (decide (x = wSame ∨ x = y)) := by
  rw [List.getElem?_zipWith, hx, hy]
end Pr
/-! set, len, min, index and slices of tuples of ints. -/
namespace Pr
open PySem PySem.Spec PyProof.Rows L2
theorem reads_ints {h : Heap} : ∀ {l : List Int} {us : List Value}, Vals (l.map V.int) us → ∃ as, ReadsAll h us (l.map PyData.int) as
  | [], _, .nil => ⟨_, .nil⟩
  | x :: l, _, .cons rx rr => by
    obtain ⟨t, rfl⟩ := rx
    obtain ⟨as, r⟩ := reads_ints rr
    exact ⟨_, .cons (.int x t) r⟩
section
variable {X : Cx}
def rSetT' (K : PySem.W.Frag) (w : World) : List V → Hp → VK → Prop := fun vs H Q => ∃ (a : Addr) (ns : List Int), vs = [V.ref a] ∧ SqT K H a (ns.map V.int) ∧ ns.length ≤ 1000 ∧
  ∀ (l : Addr) (n : Nat) (ks : List Int), H l = none → ks.Nodup → (∀ k, k ∈ ks ↔ k ∈ ns) → ks.length = n → Q (.ref l) (upd H l (SetO w l (fun j => decide (j ∈ ns)) n))
theorem cr_setT (hc : X.calm = true) : CallR X (.type "set") (rSetT' X.K X.w) := by
  intro pins s σ H vs us Q I r h
  obtain ⟨a, ns, rfl, hs, hn, q⟩ := h
  obtain ⟨its, rv, pt, hz⟩ := I.tuple hs
  rw [Vals.ref1 r]
  refine call_set_tupI ns (I.ok.hd hc) pt (by simpa using rv.ints) (Nat.lt_of_le_of_lt (Nat.add_le_add_right hn 1) (by decide)) fun h' tk n R _ kp => ?_
  obtain ⟨o, es, ep, t, h1, h2, h3, h4, h5, h6, h7, h8, h9, h10⟩ := id R
  refine ⟨.ref s.heap.objs.size, _, I.laid (t' := tk) kp (Nat.le_refl _) (setO_new R), rfl, q _ n (es.toList.map keyOf) (I.hok.fresh (Nat.le_refl _)) h5 (fun k => ?_) (by rw [List.length_map, Array.length_toList]; exact h9)⟩
  rw [← h6 k, decide_eq_true_eq]
/-- len of a set of ints -/
def rLenSet (w : World) : List V → Hp → VK → Prop := fun vs H Q => ∃ (a : Addr) (S : Int → Bool) (n : Nat), vs = [V.ref a] ∧ H a = some (SetO w a S n) ∧ Q (.int (n : Nat)) H
theorem cr_lenSet : CallR X (.builtin "len") (rLenSet X.w) := by
  intro pins s σ H vs us Q I r h
  obtain ⟨a, S, n, rfl, ha, q⟩ := h
  rw [Vals.ref1 r]
  obtain ⟨o, es, ep, t, h1, h2, h3, h4, h5, h6, h7, h8, h9, h10⟩ := setO_get I ha
  have hz : es.size < 2 ^ 24 := Nat.lt_of_lt_of_le h7 (by decide)
  exact call_len_set h1 h2 h3 h8 (by omega) ⟨.int (n : Nat), H, I.tok _, ⟨_, by rw [h9]⟩, q⟩
/-- min of a tuple of ints -/
def rMinT (K : PySem.W.Frag) : List V → Hp → VK → Prop := fun vs H Q => ∃ (a : Addr) (n : Int) (ns : List Int), vs = [V.ref a] ∧ SqT K H a ((n :: ns).map V.int) ∧ Q (.int (ns.foldl min n)) H
theorem cr_minT (hc : X.calm = true) (hu : X.A.units + 64 < cLine) : CallR X (.builtin "min") (rMinT X.K) := by
  intro pins s σ H vs us Q I r h
  obtain ⟨a, n, ns, rfl, hs, q⟩ := h
  obtain ⟨its, rv, pt, hz⟩ := I.tuple hs
  rw [Vals.ref1 r]
  obtain ⟨as, ra⟩ := reads_ints (h := s.heap) (l := n :: ns) rv
  have dp : ∀ l : List Int, PyData.depthAll (l.map PyData.int) = 0 := fun l => by
    induction l with
    | nil => simp [PyData.depthAll]
    | cons x l ih => rw [List.map_cons]; simp only [PyData.depthAll, PyData.depth]; rw [ih]; rfl
  have alk : PySem.W.AlikeAll ((n :: ns).map PyData.int) := by
    refine ⟨fun x hx y hy => ?_, fun x hx e => ?_⟩
    · obtain ⟨i, _, rfl⟩ := List.mem_map.mp hx
      obtain ⟨j, _, rfl⟩ := List.mem_map.mp hy
      rfl
    · obtain ⟨i, _, rfl⟩ := List.mem_map.mp hx
      cases e
  refine PySem.W.min_tuple_data (I.ok.hd hc) pt (by simpa using ra) alk (by have := dp (n :: ns); rw [List.map_cons] at this; rw [this]; omega) fun i v h' tk bs _ rd kp => ?_
  rw [PySem.W.minD_ints] at rd
  cases rd with
  | int _ t => exact ⟨.int _, H, I.kept (t' := tk) kp, ⟨_, rfl⟩, q⟩
/-- t.index(k), it is there -/
def rIdxT (K : PySem.W.Frag) : V → List V → Hp → VK → Prop := fun x xs H Q => ∃ (p : Addr) (ns : List Int) (k : Int) (j : Nat), x = .ref p ∧ xs = [.int k] ∧ SqT K H p (ns.map V.int) ∧ ns[j]? = some k ∧ (∀ m, m < j → ns[m]? ≠ some k) ∧ Q (.int (j : Nat)) H
theorem mt_tindex : MtR X "tuple.index" (rIdxT X.K) := by
  intro pins s σ H x xs v us Q I rx rxs h
  obtain ⟨p, ns, k, j, rfl, rfl, hs, hj, hno, q⟩ := h
  cases rx
  obtain ⟨u, rfl, t, rfl⟩ := rxs.one
  obtain ⟨its, rv, ⟨⟨cls, dd, data, sl⟩, ho, hc, n, hd⟩, hlen⟩ := I.tuple hs
  simp only at hc hd
  subst hc hd
  have hi := ints_of_vals rv
  have len : its.toArray.size = ns.length := by simpa using hi.length
  have lj : j < its.toArray.size := by rw [len]; exact (List.getElem?_eq_some_iff.mp hj).1
  have nth : ∀ (m : Nat) (hm : m < its.toArray.size), eqk k its.toArray[m] = true ↔ ns[m]? = some k := fun m hm => by
    have hm' : m < ns.length := by rw [← len]; exact hm
    obtain ⟨tm, e⟩ := hi.get m _ (List.getElem?_eq_getElem hm')
    have e2 : its.toArray[m] = .int ns[m] tm := by
      have := (List.getElem?_eq_some_iff.mp e).2
      simpa using this
    rw [e2, List.getElem?_eq_getElem hm']
    show ((ns[m] == k) = true) ↔ _
    rw [beq_iff_eq]
    exact ⟨fun z => by rw [z], fun z => Option.some.inj z⟩
  refine call_meets PySem.F.slot_tuple_index ⟨_, ho, rfl⟩ PySem.F.entry_tuple_index (PySem.F.args_tuple_index_2 _ _) (TI.tuple_indexAt p its.toArray n dd sl (.int k t) (eqk k) j lj ((nth j lj).mpr hj) (fun m hm hmj => ?_))
    ⟨ho, fun y hy => (eqk_gives hi y (by simpa using hy)).at _ _, ⟨.int (j : Nat), H, I.tok _, ⟨_, rfl⟩, q⟩⟩
  exact (Bool.not_eq_true _).mp fun z => hno m hmj ((nth m hm).mp z)
/-- t[lo:hi] of a known tuple -/
def rSlF : V → Option Int → Option Int → Hp → VK → Prop := fun x lo hi H Q => ∃ a xs, x = .ref a ∧ FT H a xs ∧ ∀ p H', Same H H' → FT H' p (cutV xs lo hi) → Q (.ref p) H'
theorem sl_tupF : SlR X rSlF := by
  intro pins s σ H x v vl vu lo hi sl Q I rx hs pl pu h
  obtain ⟨a, xs, rfl, hF, q⟩ := h
  by_cases hw : HT.sIx xs.length 0 lo = 0 ∧ HT.sIx xs.length xs.length hi = xs.length
  · refine sl_tupA pins s σ H _ v vl vu lo hi sl Q I rx hs pl pu ⟨a, xs, rfl, hF.sq, fun e => q a H (Same.refl _) ?_, fun e => absurd hw e⟩
    have : cutV xs lo hi = xs := by
      unfold cutV
      rw [hw.1, hw.2, List.drop_zero, Nat.sub_zero, List.take_length]
    rw [this]; exact hF
  · cases rx
    obtain ⟨its, r, ht, hz⟩ := I.tuple (hF.sq (K := X.K))
    have len : its.toArray.size = xs.length := by simpa using r.length.symm
    refine ⟨"tuple", _, PyProof.Rows.slot_tuple_getitem.lookup, ht.typeIs, HT.getItem_tuple_cut ht hs pl pu (by rw [len]; exact hw) ?_ (by rw [len]; exact hz)⟩
    rw [len]
    have rr := (r.drop (HT.sIx xs.length 0 lo)).take (HT.sIx xs.length xs.length hi - HT.sIx xs.length 0 lo)
    exact ⟨.ref s.heap.objs.size, _, I.laid (t' := s.toks) (o := .frz { cls := .type "tuple", data := .seq ((its.drop (HT.sIx xs.length 0 lo)).take (HT.sIx xs.length xs.length hi - HT.sIx xs.length 0 lo)).toArray } (.tup (cutV xs lo hi))) (fun _ _ e => Heap.get?_push_of_some _ e) (Nat.le_refl _) ⟨Heap.get?_push_size _ rfl, Nat.le_trans (cutV_length xs lo hi) hz, _, rr, IsTup.new _ _⟩, rfl,
      q _ _ (same_new (I.hok.fresh (Nat.le_refl _))) ⟨_, upd_same, rfl⟩⟩
end
end Pr
/-! A layer over the rules: what an expression gives, as data. -/
namespace Pr
open PySem PySem.Spec PyProof.Rows L2

/-! ### data without lists -/
mutual
def lf : PyData → Bool
  | .list _ => false
  | .dict _ => false
  | .tuple ds => lfAll ds
  | .none => true
  | .bool _ => true
  | .int _ => true
  | .str _ => true
def lfAll : List PyData → Bool
  | [] => true
  | d :: r => lf d && lfAll r
end
theorem lfAll_of {ds : List PyData} (h : ∀ d ∈ ds, lf d = true) : lfAll ds = true := by
  induction ds with
  | nil => simp [lfAll]
  | cons d r ih => simp [lfAll, h d List.mem_cons_self, ih fun x hx => h x (List.mem_cons_of_mem _ hx)]
theorem lf_tup {ds : List PyData} (h : ∀ d ∈ ds, lf d = true) : lf (.tuple ds) = true := by simp only [lf]; exact lfAll_of h
theorem lf_ints (l : List Int) : lf (dInts l) = true := lf_tup fun d hd => by
  obtain ⟨x, _, rfl⟩ := List.mem_map.mp hd
  simp only [lf]
theorem lf_pan (p : List (List Int)) : lf (dPan p) = true := lf_tup fun d hd => by
  obtain ⟨x, _, rfl⟩ := List.mem_map.mp hd
  exact lf_ints x
theorem lf_strs (l : List Str) : lf (dStrs l) = true := lf_tup fun d hd => by
  obtain ⟨x, _, rfl⟩ := List.mem_map.mp hd
  simp only [lf]

/-! ### what stays -/
def Kp (H H' : Hp) : Prop := (∀ b xs, H b = some (.tup xs) → H' b = some (.tup xs)) ∧ ∀ b o u, H b = some (.frz o u) → H' b = some (.frz o u)
theorem Kp.refl (H : Hp) : Kp H H := ⟨fun _ _ h => h, fun _ _ _ h => h⟩
theorem Kp.trans {H H1 H2 : Hp} (x : Kp H H1) (y : Kp H1 H2) : Kp H H2 := ⟨fun b xs h => y.1 b xs (x.1 b xs h), fun b o u h => y.2 b o u (x.2 b o u h)⟩
theorem Kp.of {H H' : Hp} (x : Same H H') : Kp H H' := ⟨fun b xs h => x b _ h, fun b o u h => x b _ h⟩
theorem Kp.upd {H : Hp} {D : Addr} {xs : List V} {o : HO} (h : H D = some (.lst xs)) : Kp H (upd H D o) :=
  ⟨fun b ys e => by rw [upd_ne (ne_of e h (by intro z; cases z))]; exact e, fun b q u e => by rw [upd_ne (ne_of e h (by intro z; cases z))]; exact e⟩
theorem Kp.but {H H' : Hp} {a c : Addr} {m : Nat} (d : Deck H a c m) (b : But a c H H') : Kp H H' :=
  ⟨fun p xs e => let q := d.apart e (fun _ => by intro z; cases z); b _ _ q.1 q.2 e, fun p o u e => let q := d.apart e (fun _ => by intro z; cases z); b _ _ q.1 q.2 e⟩
theorem FT.kp {H H' : Hp} {a : Addr} {xs : List V} (e : Kp H H') (h : FT H a xs) : FT H' a xs := let ⟨o, q, z⟩ := h; ⟨o, e.2 _ _ _ q, z⟩
theorem PanAt.kp {H H' : Hp} {p : Addr} {pan : List (List Int)} (e : Kp H H') (h : PanAt H p pan) : PanAt H' p pan :=
  let ⟨qs, h1, h2⟩ := h; ⟨qs, h1.kp e, h2.mono fun _ _ x => x.kp e⟩
section
variable {K : PySem.W.Frag} {H H' : Hp}
theorem sqT_kp {a : Addr} {xs : List V} (e : Kp H H') (h : SqT K H a xs) : SqT K H' a xs := by
  rcases h with (h | ⟨o, h⟩) | h
  · exact .inl (.inl (e.1 _ _ h))
  · exact .inl (.inr ⟨o, e.2 _ _ _ h⟩)
  · exact .inr h
mutual
theorem dp_same (e : Same H H') : ∀ (d : PyData) (v : V), Dp K H v d → Dp K H' v d
  | .none, _, h => by cases h; exact .non
  | .bool _, _, h => by cases h; exact .bl _
  | .int _, _, h => by cases h; exact .int _
  | .str _, _, h => by cases h; exact .str _
  | .list ds, _, h => by cases h with | lst q r => exact .lst (e.seq q) (dpAll_same e ds _ r)
  | .tuple ds, _, h => by cases h with | tup q r => exact .tup (same_sqT e q) (dpAll_same e ds _ r)
  | .dict _, _, h => by cases h
theorem dpAll_same (e : Same H H') : ∀ (ds : List PyData) (vs : List V), DpAll K H vs ds → DpAll K H' vs ds
  | [], _, h => by cases h; exact .nil
  | d :: r, _, h => by cases h with | cons x y => exact .cons (dp_same e d _ x) (dpAll_same e r _ y)
end
mutual
theorem dp_kp (e : Kp H H') : ∀ (d : PyData) (v : V), lf d = true → Dp K H v d → Dp K H' v d
  | .none, _, _, h => by cases h; exact .non
  | .bool _, _, _, h => by cases h; exact .bl _
  | .int _, _, _, h => by cases h; exact .int _
  | .str _, _, _, h => by cases h; exact .str _
  | .list ds, _, z, h => by simp [lf] at z
  | .tuple ds, _, z, h => by cases h with | tup q r => exact .tup (sqT_kp e q) (dpAll_kp e ds _ (by simpa [lf] using z) r)
  | .dict _, _, _, h => by cases h
theorem dpAll_kp (e : Kp H H') : ∀ (ds : List PyData) (vs : List V), lfAll ds = true → DpAll K H vs ds → DpAll K H' vs ds
  | [], _, _, h => by cases h; exact .nil
  | d :: r, _, z, h => by
    simp only [lfAll, Bool.and_eq_true] at z
    cases h with | cons x y => exact .cons (dp_kp e d _ z.1 x) (dpAll_kp e r _ z.2 y)
end
theorem _root_.L2.Dp.sm {d : PyData} {v : V} (h : Dp K H v d) (e : Same H H') : Dp K H' v d := dp_same e d v h
theorem _root_.L2.DpAll.sm {ds : List PyData} {vs : List V} (h : DpAll K H vs ds) (e : Same H H') : DpAll K H' vs ds := dpAll_same e ds vs h
theorem _root_.L2.Dp.kp {d : PyData} {v : V} (h : Dp K H v d) (e : Kp H H') (z : lf d = true := by first | exact lf_pan _ | exact lf_ints _ | exact lf_strs _ | rfl | assumption) : Dp K H' v d := dp_kp e d v z h
theorem _root_.L2.DpAll.length {ds : List PyData} : ∀ {vs : List V}, DpAll K H vs ds → vs.length = ds.length := by
  induction ds with
  | nil => intro vs h; cases h; rfl
  | cons d r ih => intro vs h; cases h with | cons x y => simp [ih y]
theorem _root_.L2.DpAll.get {ds : List PyData} : ∀ {vs : List V}, DpAll K H vs ds → ∀ (i : Nat) (d : PyData), ds[i]? = some d → ∃ v, vs[i]? = some v ∧ Dp K H v d := by
  induction ds with
  | nil => intro vs h i d e; simp at e
  | cons d' r ih =>
    intro vs h i d e
    cases h with
    | cons x y =>
      cases i with
      | zero => simp at e; subst e; exact ⟨_, rfl, x⟩
      | succ i => obtain ⟨v, h1, h2⟩ := ih y i d (by simpa using e); exact ⟨v, by simpa using h1, h2⟩
theorem _root_.L2.DpAll.of_get {vs : List V} {ds : List PyData} (hl : vs.length = ds.length) (h : ∀ (i : Nat) v d, vs[i]? = some v → ds[i]? = some d → Dp K H v d) : DpAll K H vs ds := by
  induction vs generalizing ds with
  | nil => cases ds with | nil => exact .nil | cons d r => simp at hl
  | cons v r ih =>
    cases ds with
    | nil => simp at hl
    | cons d ds => exact .cons (h 0 v d rfl rfl) (ih (by simpa using hl) fun i v d h1 h2 => h (i + 1) v d (by simpa using h1) (by simpa using h2))
theorem _root_.L2.DpAll.append {d1 d2 : List PyData} : ∀ {v1 v2 : List V}, DpAll K H v1 d1 → DpAll K H v2 d2 → DpAll K H (v1 ++ v2) (d1 ++ d2) := by
  induction d1 with
  | nil => intro v1 v2 h g; cases h; exact g
  | cons d r ih => intro v1 v2 h g; cases h with | cons x y => exact .cons x (ih y g)
theorem _root_.L2.DpAll.take {ds : List PyData} : ∀ {vs : List V} (n : Nat), DpAll K H vs ds → DpAll K H (vs.take n) (ds.take n) := by
  induction ds with
  | nil => intro vs n h; cases h; simp; exact .nil
  | cons d r ih =>
    intro vs n h
    cases h with
    | cons x y =>
      cases n with
      | zero => simp; exact .nil
      | succ n => simpa using DpAll.cons x (ih n y)
theorem _root_.L2.DpAll.drop {ds : List PyData} : ∀ {vs : List V} (n : Nat), DpAll K H vs ds → DpAll K H (vs.drop n) (ds.drop n) := by
  induction ds with
  | nil => intro vs n h; cases h; simp; exact .nil
  | cons d r ih =>
    intro vs n h
    cases h with
    | cons x y =>
      cases n with
      | zero => simpa using DpAll.cons x y
      | succ n => simpa using ih n y
theorem _root_.L2.DpAll.reverse {ds : List PyData} : ∀ {vs : List V}, DpAll K H vs ds → DpAll K H vs.reverse ds.reverse := by
  induction ds with
  | nil => intro vs h; cases h; exact .nil
  | cons d r ih =>
    intro vs h
    cases h with
    | cons x y => rw [List.reverse_cons, List.reverse_cons]; exact DpAll.append (ih y) (.cons x .nil)
theorem dpAll_intsV : ∀ {l : List Int} {vs : List V}, DpAll K H vs (l.map PyData.int) → vs = l.map V.int
  | [], _, h => by cases h; rfl
  | x :: r, _, h => by
    rw [List.map_cons] at h
    cases h with | cons a b => cases a; rw [dpAll_intsV b]; rfl
theorem dpAll_strsV : ∀ {l : List Str} {vs : List V}, DpAll K H vs (l.map PyData.str) → vs = l.map V.str
  | [], _, h => by cases h; rfl
  | x :: r, _, h => by
    rw [List.map_cons] at h
    cases h with | cons a b => cases a; rw [dpAll_strsV b]; rfl
theorem dpAll_blsV : ∀ {l : List Bool} {vs : List V}, DpAll K H vs (l.map PyData.bool) → vs = l.map V.bl
  | [], _, h => by cases h; rfl
  | x :: r, _, h => by
    rw [List.map_cons] at h
    cases h with | cons a b => cases a; rw [dpAll_blsV b]; rfl
theorem _root_.L2.Dp.tupI {v : V} {ds : List PyData} (h : Dp K H v (.tuple ds)) : ∃ a xs, v = .ref a ∧ SqT K H a xs ∧ DpAll K H xs ds := by cases h with | tup q r => exact ⟨_, _, rfl, q, r⟩
theorem _root_.L2.Dp.lstI {v : V} {ds : List PyData} (h : Dp K H v (.list ds)) : ∃ a xs, v = .ref a ∧ SqL K H a xs ∧ DpAll K H xs ds := by cases h with | lst q r => exact ⟨_, _, rfl, q, r⟩
theorem _root_.L2.Dp.intsI {v : V} {l : List Int} (h : Dp K H v (dInts l)) : ∃ a, v = .ref a ∧ SqT K H a (l.map V.int) := by
  obtain ⟨a, xs, rfl, q, r⟩ := Dp.tupI h
  rw [dpAll_intsV r] at q
  exact ⟨a, rfl, q⟩
theorem _root_.L2.Dp.strsI {v : V} {l : List Str} (h : Dp K H v (dStrs l)) : ∃ a, v = .ref a ∧ SqT K H a (l.map V.str) := by
  obtain ⟨a, xs, rfl, q, r⟩ := Dp.tupI h
  rw [dpAll_strsV r] at q
  exact ⟨a, rfl, q⟩
end

/-! ### gives -/
section
variable (K : PySem.W.Frag)
def Gv (t : TE) (σ : L2.St) (H : Hp) (d : PyData) : Prop := ∀ H1, Same H H1 → ∀ Q : VK, (∀ v H', Same H1 H' → Dp K H' v d → Q v H') → t σ H1 Q
/-- a list that is tracked -/
def GvL (t : TE) (σ : L2.St) (H : Hp) (ds : List PyData) : Prop := ∀ H1, Same H H1 → ∀ Q : VK, (∀ a vs H', Same H1 H' → H' a = some (.lst vs) → DpAll K H' vs ds → Q (.ref a) H') → t σ H1 Q
/-- a new list -/
def GvN (t : TE) (σ : L2.St) (H : Hp) (ds : List PyData) : Prop := ∀ H1, Same H H1 → ∀ Q : VK, (∀ a vs H', Same H1 H' → H1 a = none → H' a = some (.lst vs) → DpAll K H' vs ds → Q (.ref a) H') → t σ H1 Q
def GvA (t : TA) (σ : L2.St) (H : Hp) (ds : List PyData) : Prop := ∀ H1, Same H H1 → ∀ Q : List V → Hp → Prop, (∀ vs H', Same H1 H' → DpAll K H' vs ds → Q vs H') → t σ H1 Q
def GvT (t : TT) (σ : L2.St) (H : Hp) (b : Bool) : Prop := ∀ H1, Same H H1 → ∀ Q : Bool → Hp → Prop, (∀ H', Same H1 H' → Q b H') → t σ H1 Q
/-- what a walk gives, while what it goes over stays as R says -/
def GvI (R : Hp → Hp → Prop) (wi : TI) (σ : L2.St) (H : Hp) (ds : List PyData) : Prop := ∀ H1, Same H H1 → ∀ Q : It → Hp → Prop,
  (∀ J H', Same H1 H' → Walk J ds.length (R H') (fun i h x h' => Same h h' ∧ ∃ d, ds[i]? = some d ∧ Dp K h' x d) → Q J H') → wi σ H1 Q
end
section
variable {K : PySem.W.Frag} {σ : L2.St} {H H' : Hp} {t ta tb : TE} {d e : PyData} {ds : List PyData} {ta' : TA} {tt uu : TT} {b c : Bool}
theorem GvN.gl (h : GvN K t σ H ds) : GvL K t σ H ds := fun H1 s Q q => h H1 s Q fun a vs H' s' _ e dv => q a vs H' s' e dv
theorem GvN.at (h : GvN K t σ H ds) {Q : VK} (q : ∀ a vs H', Same H H' → H a = none → H' a = some (.lst vs) → DpAll K H' vs ds → Q (.ref a) H') : t σ H Q := h H (Same.refl _) Q q
theorem GvN.to {es : List PyData} (h : GvN K t σ H ds) (q : ds = es) : GvN K t σ H es := q ▸ h
theorem GvN.gv (h : GvN K t σ H ds) : Gv K t σ H (.list ds) := fun H1 s Q q => h H1 s Q fun a vs H' s' _ e dv => q _ H' s' (.lst (.inl (.inl e)) dv)
theorem GvL.gv (h : GvL K t σ H ds) : Gv K t σ H (.list ds) := fun H1 s Q q => h H1 s Q fun a vs H' s' e dv => q _ H' s' (.lst (.inl (.inl e)) dv)
theorem GvL.at (h : GvL K t σ H ds) {Q : VK} (q : ∀ a vs H', Same H H' → H' a = some (.lst vs) → DpAll K H' vs ds → Q (.ref a) H') : t σ H Q := h H (Same.refl _) Q q
theorem GvL.to {es : List PyData} (h : GvL K t σ H ds) (q : ds = es) : GvL K t σ H es := q ▸ h
theorem gl_var {i : Nat} {a : Addr} {vs : List V} (h : σ[i]? = some (some (.ref a))) (e : H a = some (.lst vs)) (hd : DpAll K H vs ds) : GvL K (tVar i) σ H ds := fun H1 s Q q => ⟨_, h, q a vs H1 (Same.refl _) (s _ _ e) (hd.sm s)⟩
theorem Gv.at (h : Gv K t σ H d) {Q : VK} (q : ∀ v H', Same H H' → Dp K H' v d → Q v H') : t σ H Q := h H (Same.refl _) Q q
theorem Gv.sm (h : Gv K t σ H d) (s : Same H H') : Gv K t σ H' d := fun H1 s1 => h H1 (s.trans s1)
theorem Gv.to (h : Gv K t σ H d) (q : d = e) : Gv K t σ H e := q ▸ h
theorem GvT.at (h : GvT tt σ H b) {Q : Bool → Hp → Prop} (q : ∀ H', Same H H' → Q b H') : tt σ H Q := h H (Same.refl _) Q q
theorem GvT.to (h : GvT tt σ H b) (q : b = c) : GvT tt σ H c := q ▸ h
theorem gv_var {i : Nat} {v : V} (h : σ[i]? = some (some v)) (hd : Dp K H v d) : Gv K (tVar i) σ H d := fun H1 s Q q => ⟨v, h, q v H1 (Same.refl _) (hd.sm s)⟩
theorem gv_int {i : Int} : Gv K (tC (.int i)) σ H (.int i) := fun H1 _ Q q => q _ H1 (Same.refl _) (.int i)
theorem gv_str {x : Str} : Gv K (tC (.str x)) σ H (.str x) := fun H1 _ Q q => q _ H1 (Same.refl _) (.str x)
theorem gv_bl {x : Bool} : Gv K (tC (.bl x)) σ H (.bool x) := fun H1 _ Q q => q _ H1 (Same.refl _) (.bl x)
theorem gv_non : Gv K (tC .non) σ H .none := fun H1 _ Q q => q _ H1 (Same.refl _) .non
theorem gva_nil : GvA K tNil σ H [] := fun H1 _ Q q => q [] H1 (Same.refl _) .nil
theorem gva_cons {tr : TA} (h : Gv K t σ H d) (g : GvA K tr σ H ds) : GvA K (tCons t tr) σ H (d :: ds) := fun H1 s Q q =>
  h H1 s _ fun v H2 s2 d2 => g H2 (s.trans s2) _ fun vs H3 s3 d3 => q _ H3 (s2.trans s3) (.cons (d2.sm s3) d3)
theorem gva_starT {es : List PyData} {tr : TA} (h : Gv K t σ H (.tuple es)) (g : GvA K tr σ H ds) : GvA K (StX.tStar K t tr) σ H (es ++ ds) := fun H1 s Q q =>
  h H1 s _ fun v H2 s2 d2 => by
    obtain ⟨a, xs, rfl, hq, hr⟩ := d2.tupI
    exact ⟨a, xs, rfl, .inl hq, g H2 (s.trans s2) _ fun vs H3 s3 d3 => q _ H3 (s2.trans s3) (DpAll.append (hr.sm s3) d3)⟩
theorem gva_starL {es : List PyData} {tr : TA} (h : Gv K t σ H (.list es)) (g : GvA K tr σ H ds) : GvA K (StX.tStar K t tr) σ H (es ++ ds) := fun H1 s Q q =>
  h H1 s _ fun v H2 s2 d2 => by
    obtain ⟨a, xs, rfl, hq, hr⟩ := d2.lstI
    exact ⟨a, xs, rfl, .inr hq, g H2 (s.trans s2) _ fun vs H3 s3 d3 => q _ H3 (s2.trans s3) (DpAll.append (hr.sm s3) d3)⟩
theorem small5 {n : Nat} (h : n ≤ 100000) : n < sizeLine := Nat.lt_of_le_of_lt h (by decide)
theorem gv_tup (h : GvA K ta' σ H ds) (hl : ds.length ≤ sizeLine := by first | decide | exact Nat.le_of_lt (small5 (by simp only [List.length_cons, List.length_nil]; decide))) : Gv K (tTup ta') σ H (.tuple ds) := fun H1 s Q q => h H1 s _ fun vs H2 s2 d2 =>
  ⟨by rw [d2.length]; exact hl, fun p np => q _ _ (s2.trans (same_new np)) (.tup (.inl (.inl upd_same)) (d2.sm (same_new np)))⟩
theorem gn_lst (h : GvA K ta' σ H ds) (hl : ds.length ≤ sizeLine := by first | decide | exact Nat.le_of_lt (small5 (by simp only [List.length_cons, List.length_nil]; decide))) : GvN K (tLst ta') σ H ds := fun H1 s Q q => h H1 s _ fun vs H2 s2 d2 =>
  ⟨by rw [d2.length]; exact hl, fun p np => q _ _ _ (s2.trans (same_new np)) (s2.free np) upd_same (d2.sm (same_new np))⟩
theorem gl_lst (h : GvA K ta' σ H ds) (hl : ds.length ≤ sizeLine := by first | decide | exact Nat.le_of_lt (small5 (by simp only [List.length_cons, List.length_nil]; decide))) : GvL K (tLst ta') σ H ds := (gn_lst h hl).gl
theorem gv_lst (h : GvA K ta' σ H ds) (hl : ds.length ≤ sizeLine := by first | decide | exact Nat.le_of_lt (small5 (by simp only [List.length_cons, List.length_nil]; decide))) : Gv K (tLst ta') σ H (.list ds) := (gl_lst h hl).gv
theorem gv_op2 {r : R2} (ha : Gv K ta σ H d) (hb : Gv K tb σ H e) {f : PyData} (hr : ∀ x y H1 Q, Same H H1 → Dp K H1 x d → Dp K H1 y e → (∀ v H', Same H1 H' → Dp K H' v f → Q v H') → r x y H1 Q) : Gv K (tOp r ta tb) σ H f := fun H1 s Q q =>
  ha H1 s _ fun x H2 s2 d2 => hb H2 (s.trans s2) _ fun y H3 s3 d3 => hr x y H3 Q ((s.trans s2).trans s3) (d2.sm s3) d3 fun v H4 s4 d4 => q v H4 ((s2.trans s3).trans s4) d4
theorem gv_I0 {g : Int → Int → V} {i j : Int} (ha : Gv K ta σ H (.int i)) (hb : Gv K tb σ H (.int j)) {f : PyData} (hf : ∀ H, Dp K H (g i j) f) : Gv K (tOp (rI0 g) ta tb) σ H f :=
  gv_op2 ha hb fun x y H1 Q s hx hy q => by cases hx; cases hy; exact ⟨i, j, rfl, rfl, q _ _ (Same.refl _) (hf _)⟩
theorem gv_I {C : Int → Int → Prop} {g : Int → Int → V} {i j : Int} (ha : Gv K ta σ H (.int i)) (hb : Gv K tb σ H (.int j)) (hc : C i j) {f : PyData} (hf : ∀ H, Dp K H (g i j) f) : Gv K (tOp (rI C g) ta tb) σ H f :=
  gv_op2 ha hb fun x y H1 Q s hx hy q => by cases hx; cases hy; exact ⟨i, j, rfl, rfl, hc, q _ _ (Same.refl _) (hf _)⟩
theorem gv_add {i j : Int} (ha : Gv K ta σ H (.int i)) (hb : Gv K tb σ H (.int j)) : Gv K (tOp (rI0 fun i j => V.int (i + j)) ta tb) σ H (.int (i + j)) := gv_I0 ha hb fun _ => .int _
theorem gv_sub {i j : Int} (ha : Gv K ta σ H (.int i)) (hb : Gv K tb σ H (.int j)) : Gv K (tOp (rI0 fun i j => V.int (i - j)) ta tb) σ H (.int (i - j)) := gv_I0 ha hb fun _ => .int _
theorem gv_eqI {i j : Int} (ha : Gv K ta σ H (.int i)) (hb : Gv K tb σ H (.int j)) : Gv K (tOp rEq ta tb) σ H (.bool (decide (i = j))) :=
  gv_op2 ha hb fun x y H1 Q s hx hy q => by
    cases hx; cases hy
    refine ⟨rfl, q _ _ (Same.refl _) ?_⟩
    rw [show decide (V.int i = V.int j) = decide (i = j) from decide_eq_decide.mpr ⟨fun h => V.int.inj h, fun h => by rw [h]⟩]
    exact .bl _
theorem gv_neI {i j : Int} (ha : Gv K ta σ H (.int i)) (hb : Gv K tb σ H (.int j)) : Gv K (tOp rNe ta tb) σ H (.bool (!decide (i = j))) :=
  gv_op2 ha hb fun x y H1 Q s hx hy q => by
    cases hx; cases hy
    refine ⟨rfl, q _ _ (Same.refl _) ?_⟩
    rw [show decide (V.int i = V.int j) = decide (i = j) from decide_eq_decide.mpr ⟨fun h => V.int.inj h, fun h => by rw [h]⟩]
    exact .bl _
theorem gv_eqS {i j : Str} (ha : Gv K ta σ H (.str i)) (hb : Gv K tb σ H (.str j)) : Gv K (tOp rEq ta tb) σ H (.bool (decide (i = j))) :=
  gv_op2 ha hb fun x y H1 Q s hx hy q => by
    cases hx; cases hy
    refine ⟨rfl, q _ _ (Same.refl _) ?_⟩
    rw [show decide (V.str i = V.str j) = decide (i = j) from decide_eq_decide.mpr ⟨fun h => V.str.inj h, fun h => by rw [h]⟩]
    exact .bl _
theorem gv_neS {i j : Str} (ha : Gv K ta σ H (.str i)) (hb : Gv K tb σ H (.str j)) : Gv K (tOp rNe ta tb) σ H (.bool (!decide (i = j))) :=
  gv_op2 ha hb fun x y H1 Q s hx hy q => by
    cases hx; cases hy
    refine ⟨rfl, q _ _ (Same.refl _) ?_⟩
    rw [show decide (V.str i = V.str j) = decide (i = j) from decide_eq_decide.mpr ⟨fun h => V.str.inj h, fun h => by rw [h]⟩]
    exact .bl _
theorem gv_eqD (ha : Gv K ta σ H d) (hb : Gv K tb σ H e) (h1 : SeqAt.shaped d = true) (h2 : SeqAt.shaped e = true) : Gv K (tOp (rEqD K) ta tb) σ H (.bool (PyData.eqv d e)) :=
  gv_op2 ha hb fun x y H1 Q s hx hy q => ⟨d, e, hx, hy, h1, h2, q _ _ (Same.refl _) (.bl _)⟩
theorem gv_neD (ha : Gv K ta σ H d) (hb : Gv K tb σ H e) (h1 : SeqAt.shaped d = true) (h2 : SeqAt.shaped e = true) : Gv K (tOp (rNeD K) ta tb) σ H (.bool (!PyData.eqv d e)) :=
  gv_op2 ha hb fun x y H1 Q s hx hy q => ⟨d, e, hx, hy, h1, h2, q _ _ (Same.refl _) (.bl _)⟩
theorem inV_intsG {b : Int} (l : List Int) : inV (.int b) (l.map V.int) = decide (b ∈ l) := by
  unfold inV
  rw [List.any_map, Bool.eq_iff_iff, List.any_eq_true, decide_eq_true_eq]
  constructor
  · rintro ⟨x, hx, e⟩
    have e' : x = b := by simpa [eqV] using e
    rw [← e']; exact hx
  · intro h
    exact ⟨b, h, by simp [eqV]⟩
theorem flat_intsG : ∀ l : List Int, (l.map V.int).all flatV = true
  | [] => rfl
  | x :: r => by rw [List.map_cons, List.all_cons, flat_intsG r]; rfl
theorem flat_strsG : ∀ l : List Str, (l.map V.str).all flatV = true
  | [] => rfl
  | x :: r => by rw [List.map_cons, List.all_cons, flat_strsG r]; rfl
theorem gv_inT {neg : Bool} {i : Int} {l : List Int} (ha : Gv K ta σ H (.int i)) (hb : Gv K tb σ H (dInts l)) : Gv K (tOp (rIn K neg) ta tb) σ H (.bool (if neg then !decide (i ∈ l) else decide (i ∈ l))) :=
  gv_op2 ha hb fun x y H1 Q s hx hy q => by
    cases hx
    obtain ⟨a, rfl, hq⟩ := hy.intsI
    refine ⟨a, _, rfl, .inr hq, rfl, flat_intsG l, ?_⟩
    rw [inV_intsG]
    exact q _ _ (Same.refl _) (.bl _)
theorem gv_inL {neg : Bool} {i : Int} {l : List Int} (ha : Gv K ta σ H (.int i)) (hb : Gv K tb σ H (.list (l.map PyData.int))) : Gv K (tOp (rIn K neg) ta tb) σ H (.bool (if neg then !decide (i ∈ l) else decide (i ∈ l))) :=
  gv_op2 ha hb fun x y H1 Q s hx hy q => by
    cases hx
    obtain ⟨a, xs, rfl, hq, hr⟩ := hy.lstI
    rw [dpAll_intsV hr] at hq
    refine ⟨a, _, rfl, .inl hq, rfl, flat_intsG l, ?_⟩
    rw [inV_intsG]
    exact q _ _ (Same.refl _) (.bl _)
theorem gv_inS {neg : Bool} {i : Str} {l : List Str} (ha : Gv K ta σ H (.str i)) (hb : Gv K tb σ H (dStrs l)) : Gv K (tOp (rIn K neg) ta tb) σ H (.bool (if neg then !decide (i ∈ l) else decide (i ∈ l))) :=
  gv_op2 ha hb fun x y H1 Q s hx hy q => by
    cases hx
    obtain ⟨a, rfl, hq⟩ := hy.strsI
    refine ⟨a, _, rfl, .inr hq, rfl, flat_strsG l, ?_⟩
    rw [inV_strs]
    exact q _ _ (Same.refl _) (.bl _)
theorem gv_ixT {i : Int} {j : Nat} (ha : Gv K ta σ H (.tuple ds)) (hb : Gv K tb σ H (.int i)) (hi : i = (j : Int)) (hj : ds[j]? = some d) : Gv K (tOp (rIxT K) ta tb) σ H d :=
  gv_op2 ha hb fun x y H1 Q s hx hy q => by
    cases hy
    obtain ⟨a, xs, rfl, hq, hr⟩ := hx.tupI
    obtain ⟨v, hv, dv⟩ := hr.get j d hj
    exact ⟨a, xs, i, v, rfl, rfl, hq, by rw [hi]; exact atI_nat hv, q _ _ (Same.refl _) dv⟩
theorem gv_ixL {i : Int} {j : Nat} (ha : Gv K ta σ H (.list ds)) (hb : Gv K tb σ H (.int i)) (hi : i = (j : Int)) (hj : ds[j]? = some d) : Gv K (tOp (rIxL K) ta tb) σ H d :=
  gv_op2 ha hb fun x y H1 Q s hx hy q => by
    cases hy
    obtain ⟨a, xs, rfl, hq, hr⟩ := hx.lstI
    obtain ⟨v, hv, dv⟩ := hr.get j d hj
    exact ⟨a, xs, i, v, rfl, rfl, hq, by rw [hi]; exact atI_nat hv, q _ _ (Same.refl _) dv⟩
theorem gv_pan {i : Int} {pan : List (List Int)} (ha : Gv K ta σ H (dPan pan)) (hb : Gv K tb σ H (.int i)) (h0 : 0 ≤ i) (h1 : i < (pan.length : Int)) : Gv K (tOp (rIxT K) ta tb) σ H (dInts (pan.getD i.toNat [])) := by
  refine gv_ixT (j := i.toNat) ha hb (by omega) ?_
  rw [List.getElem?_map, List.getD_eq_getElem?_getD, List.getElem?_eq_getElem (by omega)]; rfl
/-! builtins of one argument -/
theorem gv_cb {r : List V → Hp → VK → Prop} (h : GvA K ta' σ H ds) {f : PyData} (hr : ∀ vs H1 Q, Same H H1 → DpAll K H1 vs ds → (∀ v H', Same H1 H' → Dp K H' v f → Q v H') → r vs H1 Q) : Gv K (tCB r ta') σ H f := fun H1 s Q q =>
  h H1 s _ fun vs H2 s2 d2 => hr vs H2 Q (s.trans s2) d2 fun v H3 s3 d3 => q v H3 (s2.trans s3) d3
theorem dpAll1 {vs : List V} (h : DpAll K H vs [d]) : ∃ v, vs = [v] ∧ Dp K H v d := by
  cases h with | cons x y => cases y; exact ⟨_, rfl, x⟩
theorem dpAll2 {vs : List V} (h : DpAll K H vs [d, e]) : ∃ v u, vs = [v, u] ∧ Dp K H v d ∧ Dp K H u e := by
  cases h with | cons x y => obtain ⟨u, rfl, z⟩ := dpAll1 y; exact ⟨_, _, rfl, x, z⟩
theorem dpAll3 {f : PyData} {vs : List V} (h : DpAll K H vs [d, e, f]) : ∃ v u w, vs = [v, u, w] ∧ Dp K H v d ∧ Dp K H u e ∧ Dp K H w f := by
  cases h with | cons x y => obtain ⟨u, w, rfl, z⟩ := dpAll2 y; exact ⟨_, _, _, rfl, x, z⟩
theorem dpAll4 {f g : PyData} {vs : List V} (h : DpAll K H vs [d, e, f, g]) : ∃ v u w z, vs = [v, u, w, z] ∧ Dp K H v d ∧ Dp K H u e ∧ Dp K H w f ∧ Dp K H z g := by
  cases h with | cons x y => obtain ⟨u, w, q, rfl, z⟩ := dpAll3 y; exact ⟨_, _, _, _, rfl, x, z⟩
def rLenG (K : PySem.W.Frag) : List V → Hp → VK → Prop := fun xs H Q => ∃ p ys, xs = [V.ref p] ∧ (SqL K H p ys ∨ SqT K H p ys) ∧ Q (.int ys.length) H
theorem cr_lenG {X : Cx} : CallR X (.builtin "len") (rLenG X.K) := call_len_seq
def rTupG (K : PySem.W.Frag) : List V → Hp → VK → Prop := fun xs H Q => ∃ p ys, xs = [V.ref p] ∧ ((SqL K H p ys ∧ ∀ l, H l = none → Q (.ref l) (upd H l (.tup ys))) ∨ (SqT K H p ys ∧ Q (.ref p) H))
theorem cr_tupG {X : Cx} : CallR X (.type "tuple") (rTupG X.K) := call_tuple_of
theorem gv_lenT (h : Gv K t σ H (.tuple ds)) : Gv K (tCB (rLenG K) (tCons t tNil)) σ H (.int ds.length) :=
  gv_cb (gva_cons h gva_nil) fun vs H1 Q s hd q => by
    obtain ⟨v, rfl, hv⟩ := dpAll1 hd
    obtain ⟨a, xs, rfl, hq, hr⟩ := hv.tupI
    exact ⟨a, xs, rfl, .inr hq, by rw [hr.length]; exact q _ _ (Same.refl _) (.int _)⟩
theorem gv_lenL (h : Gv K t σ H (.list ds)) : Gv K (tCB (rLenG K) (tCons t tNil)) σ H (.int ds.length) :=
  gv_cb (gva_cons h gva_nil) fun vs H1 Q s hd q => by
    obtain ⟨v, rfl, hv⟩ := dpAll1 hd
    obtain ⟨a, xs, rfl, hq, hr⟩ := hv.lstI
    exact ⟨a, xs, rfl, .inl hq, by rw [hr.length]; exact q _ _ (Same.refl _) (.int _)⟩
theorem gv_tupL (h : Gv K t σ H (.list ds)) : Gv K (tCB (rTupG K) (tCons t tNil)) σ H (.tuple ds) :=
  gv_cb (gva_cons h gva_nil) fun vs H1 Q s hd q => by
    obtain ⟨v, rfl, hv⟩ := dpAll1 hd
    obtain ⟨a, xs, rfl, hq, hr⟩ := hv.lstI
    exact ⟨a, xs, rfl, .inl ⟨hq, fun l nl => q _ _ (same_new nl) (.tup (.inl (.inl upd_same)) (hr.sm (same_new nl)))⟩⟩
theorem gv_tupF (h : Gv K t σ H (.list ds)) : Gv K (tCB (rTupF K) (tCons t tNil)) σ H (.tuple ds) :=
  gv_cb (gva_cons h gva_nil) fun vs H1 Q s hd q => by
    obtain ⟨v, rfl, hv⟩ := dpAll1 hd
    obtain ⟨a, xs, rfl, hq, hr⟩ := hv.lstI
    exact ⟨a, xs, rfl, hq, fun l o nl _ => q _ _ (same_new nl) (.tup (.inl (.inr ⟨o, upd_same⟩)) (hr.sm (same_new nl)))⟩
theorem gn_lstT (h : Gv K t σ H (.tuple ds)) : GvN K (tCB (rListG K) (tCons t tNil)) σ H ds := fun H1 s Q q => h H1 s _ fun v H2 s2 d2 => by
    obtain ⟨a, xs, rfl, hq, hr⟩ := d2.tupI
    exact ⟨a, xs, rfl, hq, fun l nl _ => q _ _ _ (s2.trans (same_new nl)) (s2.free nl) upd_same (hr.sm (same_new nl))⟩
theorem gl_lstT (h : Gv K t σ H (.tuple ds)) : GvL K (tCB (rListG K) (tCons t tNil)) σ H ds := (gn_lstT h).gl
theorem gv_lstT (h : Gv K t σ H (.tuple ds)) : Gv K (tCB (rListG K) (tCons t tNil)) σ H (.list ds) :=
  gv_cb (gva_cons h gva_nil) fun vs H1 Q s hd q => by
    obtain ⟨v, rfl, hv⟩ := dpAll1 hd
    obtain ⟨a, xs, rfl, hq, hr⟩ := hv.tupI
    exact ⟨a, xs, rfl, hq, fun l nl _ => q _ _ (same_new nl) (.lst (.inl (.inl upd_same)) (hr.sm (same_new nl)))⟩
/-- the ascending one of the same numbers -/
def srt (l : List Int) : List Int := l.mergeSort (fun a b => decide (a ≤ b))
theorem srt_perm (l : List Int) : (srt l).Perm l := List.mergeSort_perm _ _
theorem srt_up (l : List Int) : (srt l).Pairwise (· ≤ ·) := by
  have := List.pairwise_mergeSort (le := fun a b : Int => decide (a ≤ b)) (fun a b c h1 h2 => by simp at *; omega) (fun a b => by simp; omega) l
  exact this.imp fun h => by simpa using h
theorem perm_up_eq : ∀ {l1 l2 : List Int}, l1.Perm l2 → l1.Pairwise (· ≤ ·) → l2.Pairwise (· ≤ ·) → l1 = l2 := by
  intro l1
  induction l1 with
  | nil => intro l2 h _ _; exact (List.nil_perm.mp h).symm
  | cons x r ih =>
    intro l2 h h1 h2
    cases l2 with
    | nil => exact absurd h.symm (by simp)
    | cons y s =>
      rw [List.pairwise_cons] at h1 h2
      have hxy : x = y := by
        have hx : x ∈ y :: s := h.subset List.mem_cons_self
        have hy : y ∈ x :: r := h.symm.subset List.mem_cons_self
        rcases List.mem_cons.mp hx with e | e
        · exact e
        · rcases List.mem_cons.mp hy with e' | e'
          · exact e'.symm
          · have := h1.1 y e'
            have := h2.1 x e
            omega
      subst hxy
      rw [ih (List.Perm.cons_inv h) h1.2 h2.2]
theorem srt_eq {l m : List Int} (h : m.Perm l) (u : m.Pairwise (· ≤ ·)) : srt l = m := perm_up_eq ((srt_perm l).trans h.symm) (srt_up l) u
theorem srt_self {l : List Int} (u : l.Pairwise (· < ·)) : srt l = l := srt_eq (List.Perm.refl _) (u.imp fun h => by omega)
theorem gn_sortL {l : List Int} (h : Gv K t σ H (.list (l.map PyData.int))) (hl : l.length < 64) : GvN K (tCB (rSorted K) (tCons t tNil)) σ H ((srt l).map PyData.int) := fun H1 s Q q => h H1 s _ fun v H2 s2 d2 => by
    obtain ⟨a, xs, rfl, hq, hr⟩ := d2.lstI
    rw [dpAll_intsV hr] at hq
    refine ⟨a, l, rfl, hq, hl, fun ns' p hp hu np => ?_⟩
    rw [← srt_eq hp hu]
    exact q _ _ _ (s2.trans (same_new np)) (s2.free np) upd_same (dpAll_ints _)
theorem gl_sortL {l : List Int} (h : Gv K t σ H (.list (l.map PyData.int))) (hl : l.length < 64) : GvL K (tCB (rSorted K) (tCons t tNil)) σ H ((srt l).map PyData.int) := (gn_sortL h hl).gl
theorem gv_sortL {l : List Int} (h : Gv K t σ H (.list (l.map PyData.int))) (hl : l.length < 64) : Gv K (tCB (rSorted K) (tCons t tNil)) σ H (.list ((srt l).map PyData.int)) :=
  gv_cb (gva_cons h gva_nil) fun vs H1 Q s hd q => by
    obtain ⟨v, rfl, hv⟩ := dpAll1 hd
    obtain ⟨a, xs, rfl, hq, hr⟩ := hv.lstI
    rw [dpAll_intsV hr] at hq
    refine ⟨a, l, rfl, hq, hl, fun ns' p hp hu np => ?_⟩
    rw [← srt_eq hp hu]
    exact q _ _ (same_new np) (.lst (.inl (.inl upd_same)) (dpAll_ints _))
theorem gv_all {l : List Bool} (h : Gv K t σ H (.list (l.map PyData.bool))) : Gv K (tCB (rAll K) (tCons t tNil)) σ H (.bool (l.all id)) :=
  gv_cb (gva_cons h gva_nil) fun vs H1 Q s hd q => by
    obtain ⟨v, rfl, hv⟩ := dpAll1 hd
    obtain ⟨a, xs, rfl, hq, hr⟩ := hv.lstI
    rw [dpAll_blsV hr] at hq
    exact ⟨a, l, rfl, hq, q _ _ (Same.refl _) (.bl _)⟩
theorem gv_any {l : List Bool} (h : Gv K t σ H (.list (l.map PyData.bool))) : Gv K (tCB (rAny K) (tCons t tNil)) σ H (.bool (l.any id)) :=
  gv_cb (gva_cons h gva_nil) fun vs H1 Q s hd q => by
    obtain ⟨v, rfl, hv⟩ := dpAll1 hd
    obtain ⟨a, xs, rfl, hq, hr⟩ := hv.lstI
    rw [dpAll_blsV hr] at hq
    exact ⟨a, l, rfl, hq, q _ _ (Same.refl _) (.bl _)⟩
theorem gv_repr {n : Nat} (h : Gv K t σ H d) (hd : Shw 60 sizeLine d) (hr : ∃ ds, d = .tuple ds ∨ d = .list ds) : Gv K (tCB (rRepr K) (tCons t tNil)) σ H (.str d.shown) :=
  gv_cb (gva_cons h gva_nil) fun vs H1 Q s hd' q => by
    obtain ⟨v, rfl, hv⟩ := dpAll1 hd'
    obtain ⟨a, rfl⟩ : ∃ a, v = V.ref a := by
      obtain ⟨ds, rfl | rfl⟩ := hr
      · obtain ⟨a, _, e, _⟩ := hv.tupI; exact ⟨a, e⟩
      · obtain ⟨a, _, e, _⟩ := hv.lstI; exact ⟨a, e⟩
    exact ⟨a, d, rfl, hv, hd.sh, hd.nd, hd.dp, hd.ln, q _ _ (Same.refl _) (.str _)⟩
/-! tests -/
theorem gvt_test (h : Gv K t σ H (.bool b)) : GvT (tTest t) σ H b := fun H1 s Q q => h H1 s _ fun v H2 s2 d2 => by cases d2; exact ⟨b, rfl, q _ s2⟩
theorem gvt_b (h : Gv K t σ H (.bool b)) : GvT (tB t) σ H b := fun H1 s Q q => h H1 s _ fun v H2 s2 d2 => by cases d2; exact ⟨b, rfl, q _ s2⟩
theorem gvt_not (h : GvT tt σ H b) : GvT (tNot tt) σ H (!b) := fun H1 s Q q => h H1 s _ fun H2 s2 => q _ s2
theorem gvt_yes : GvT tYes σ H true := fun H1 s Q q => q H1 (Same.refl _)
theorem gvt_and (h : GvT tt σ H b) (g : ∀ H', Same H H' → b = true → GvT uu σ H' c) : GvT (tAnd tt uu) σ H (b && c) := fun H1 s Q q => h H1 s _ fun H2 s2 => by
  cases b with
  | true => rw [if_pos rfl]; exact g H2 (s.trans s2) rfl H2 (Same.refl _) _ fun H3 s3 => q _ (s2.trans s3)
  | false => rw [if_neg Bool.false_ne_true]; exact q _ s2
theorem gvt_or (h : GvT tt σ H b) (g : ∀ H', Same H H' → b = false → GvT uu σ H' c) : GvT (tOr tt uu) σ H (b || c) := fun H1 s Q q => h H1 s _ fun H2 s2 => by
  cases b with
  | true => rw [if_pos rfl]; exact q _ s2
  | false => rw [if_neg Bool.false_ne_true]; exact g H2 (s.trans s2) rfl H2 (Same.refl _) _ fun H3 s3 => q _ (s2.trans s3)
theorem gv_if (h : GvT tt σ H b) (h1 : b = true → Gv K ta σ H d) (h2 : b = false → Gv K tb σ H e) : Gv K (tIf tt ta tb) σ H (if b then d else e) := fun H1 s Q q => h H1 s _ fun H2 s2 => by
  cases b with
  | true => rw [if_pos rfl]; exact h1 rfl H2 (s.trans s2) _ fun v H3 s3 d3 => q v H3 (s2.trans s3) d3
  | false => rw [if_neg Bool.false_ne_true]; exact h2 rfl H2 (s.trans s2) _ fun v H3 s3 d3 => q v H3 (s2.trans s3) d3
/-! calls -/
/-- a def that only computes -/
def spP (K : PySem.W.Frag) {α : Type} (δ : α → List PyData) (C : α → Prop) (f : α → PyData) : Sp := fun vs H Q _ => ∃ a, DpAll K H vs (δ a) ∧ C a ∧ ∀ v H', Same H H' → Dp K H' v (f a) → Q v H'
theorem gv_call {α : Type} {δ : α → List PyData} {C : α → Prop} {f : α → PyData} {E : XK} (a : α) (h : GvA K ta' σ H (δ a)) (hc : C a) : Gv K (tCall (spP K δ C f) [] E ta') σ H (f a) := fun H1 s Q q =>
  h H1 s _ fun vs H2 s2 d2 => ⟨a, by rw [List.append_nil]; exact d2, hc, fun v H3 s3 d3 => q v H3 (s2.trans s3) d3⟩
end
/-! ### walks -/
section
variable {K : PySem.W.Frag} {R : Hp → Hp → Prop} {σ : L2.St} {H : Hp} {t : TE} {ta : TA} {ds : List PyData}
theorem gvi_list (h : Gv K t σ H (.list ds)) : GvI K Same (iList K t) σ H ds := fun H1 s Q q => h H1 s _ fun v H2 s2 d2 => by
  obtain ⟨a, xs, rfl, hq, hr⟩ := d2.lstI
  refine ⟨a, rfl, ⟨xs, hq⟩, q _ H2 s2 ?_⟩
  rw [← hr.length]
  refine walk_list.mono (fun h e => e.seq hq) fun i h x h' hi e y => ?_
  obtain ⟨rfl, y⟩ := y
  have hi' : i < ds.length := by rw [← hr.length]; exact hi
  obtain ⟨v, hv, dv⟩ := hr.get i ds[i] (List.getElem?_eq_getElem hi')
  rw [hv] at y; cases y
  exact ⟨Same.refl _, ds[i], List.getElem?_eq_getElem hi', dv.sm e⟩
theorem gvi_tup (h : Gv K t σ H (.tuple ds)) : GvI K Same (iTup K t) σ H ds := fun H1 s Q q => h H1 s _ fun v H2 s2 d2 => by
  obtain ⟨a, xs, rfl, hq, hr⟩ := d2.tupI
  refine ⟨a, rfl, ⟨xs, hq⟩, q _ H2 s2 ?_⟩
  rw [← hr.length]
  refine walk_tup.mono (fun h e => same_sqT e hq) fun i h x h' hi e y => ?_
  obtain ⟨rfl, y⟩ := y
  have hi' : i < ds.length := by rw [← hr.length]; exact hi
  obtain ⟨v, hv, dv⟩ := hr.get i ds[i] (List.getElem?_eq_getElem hi')
  rw [hv] at y; cases y
  exact ⟨Same.refl _, ds[i], List.getElem?_eq_getElem hi', dv.sm e⟩
theorem gvi_tupK (h : Gv K t σ H (.tuple ds)) (z : lfAll ds = true) : GvI K Kp (iTup K t) σ H ds := fun H1 s Q q => h H1 s _ fun v H2 s2 d2 => by
  obtain ⟨a, xs, rfl, hq, hr⟩ := d2.tupI
  refine ⟨a, rfl, ⟨xs, hq⟩, q _ H2 s2 ?_⟩
  rw [← hr.length]
  refine walk_tup.mono (fun h e => sqT_kp e hq) fun i h x h' hi e y => ?_
  obtain ⟨rfl, y⟩ := y
  have hi' : i < ds.length := by rw [← hr.length]; exact hi
  obtain ⟨v, hv, dv⟩ := (dpAll_kp e _ _ z hr).get i ds[i] (List.getElem?_eq_getElem hi')
  rw [hv] at y; cases y
  exact ⟨Same.refl _, ds[i], List.getElem?_eq_getElem hi', dv⟩
theorem gvi_range {n : Nat} (h : Gv K t σ H (.int n)) (hn : n < 2 ^ 62) : GvI K R (iRng1 (tCons t tNil)) σ H ((List.range n).map fun i : Nat => PyData.int (i : Int)) := fun H1 s Q q => h H1 s _ fun v H2 s2 d2 => by
  cases d2
  refine ⟨(n : Int), rfl, by omega, by omega, q _ H2 s2 ?_⟩
  rw [List.length_map, List.length_range, Int.toNat_natCast]
  refine walk_range.mono (fun _ _ => trivial) fun i h x h' hi e y => ?_
  obtain ⟨rfl, rfl⟩ := y
  refine ⟨Same.refl _, .int (i : Int), ?_, ?_⟩
  · rw [List.getElem?_map, List.getElem?_range hi]; rfl
  · dsimp only; rw [Int.zero_add]; exact .int _
theorem gvi_range2 {lo n : Nat} {t2 : TE} (h1 : Gv K t σ H (.int lo)) (h2 : Gv K t2 σ H (.int n)) (hl : lo < 2 ^ 62) (hn : n < 2 ^ 62) : GvI K R (iRng2 (tCons t (tCons t2 tNil))) σ H ((List.range (n - lo)).map fun i : Nat => PyData.int ((lo + i : Nat) : Int)) := fun H1 s Q q =>
  gva_cons h1 (gva_cons h2 gva_nil) H1 s _ fun vs H2 s2 d2 => by
  obtain ⟨v, u, rfl, dv, du⟩ := dpAll2 d2
  cases dv; cases du
  refine ⟨(lo : Int), (n : Int), rfl, ⟨by omega, by omega, by omega, by omega⟩, q _ H2 s2 ?_⟩
  rw [List.length_map, List.length_range, show ((n : Int) - (lo : Int)).toNat = n - lo by omega]
  refine walk_range.mono (fun _ _ => trivial) fun i h x h' hi e y => ?_
  obtain ⟨rfl, rfl⟩ := y
  refine ⟨Same.refl _, .int ((lo + i : Nat) : Int), ?_, ?_⟩
  · rw [List.getElem?_map, List.getElem?_range hi]; rfl
  · dsimp only; rw [show (lo : Int) + (i : Int) = ((lo + i : Nat) : Int) by omega]; exact .int _
theorem gvi_enumT {α : Type} {δ : α → PyData} {as : List α} (h : Gv K t σ H (.tuple (as.map δ))) : GvI K Same (iEnumT K (tCons t tNil)) σ H (as.zipIdx.map fun x => .tuple [.int (x.2 : Nat), δ x.1]) := fun H1 s Q q => h H1 s _ fun v H2 s2 d2 => by
  obtain ⟨a, xs, rfl, hq, hr⟩ := d2.tupI
  refine ⟨a, xs, rfl, hq, q _ H2 s2 ?_⟩
  have hl : xs.length = as.length := by rw [hr.length, List.length_map]
  rw [List.length_map, List.length_zipIdx, ← hl]
  refine walk_enumT.mono (fun h e => same_sqT e hq) fun i h x h' hi e y => ?_
  obtain ⟨T, x1, x2, rfl, nT, rfl, e1, e2⟩ := y
  cases e1
  have hi' : i < as.length := by omega
  obtain ⟨v, hv, dv⟩ := hr.get i (δ as[i]) (by rw [List.getElem?_map, List.getElem?_eq_getElem hi']; rfl)
  replace e2 : xs[i]? = some x2 := e2
  rw [hv] at e2; cases e2
  have sT : Same h (upd h T (.tup [.int (i : Nat), x2])) := same_new nT
  refine ⟨sT, .tuple [.int (i : Nat), δ as[i]], ?_, .tup (.inl (.inl upd_same)) (.cons (.int _) (.cons ((dv.sm e).sm sT) .nil))⟩
  rw [List.getElem?_map, List.getElem?_zipIdx, List.getElem?_eq_getElem hi']
  simp
theorem gvi_enumTK {α : Type} {δ : α → PyData} {as : List α} (h : Gv K t σ H (.tuple (as.map δ))) (z : ∀ a ∈ as, lf (δ a) = true) : GvI K Kp (iEnumT K (tCons t tNil)) σ H (as.zipIdx.map fun x => .tuple [.int (x.2 : Nat), δ x.1]) := fun H1 s Q q => h H1 s _ fun v H2 s2 d2 => by
  obtain ⟨a, xs, rfl, hq, hr⟩ := d2.tupI
  refine ⟨a, xs, rfl, hq, q _ H2 s2 ?_⟩
  have hl : xs.length = as.length := by rw [hr.length, List.length_map]
  rw [List.length_map, List.length_zipIdx, ← hl]
  refine walk_enumT.mono (fun h e => sqT_kp e hq) fun i h x h' hi e y => ?_
  obtain ⟨T, x1, x2, rfl, nT, rfl, e1, e2⟩ := y
  cases e1
  have hi' : i < as.length := by omega
  obtain ⟨v, hv, dv⟩ := hr.get i (δ as[i]) (by rw [List.getElem?_map, List.getElem?_eq_getElem hi']; rfl)
  replace e2 : xs[i]? = some x2 := e2
  rw [hv] at e2; cases e2
  have sT : Same h (upd h T (.tup [.int (i : Nat), x2])) := same_new nT
  refine ⟨sT, .tuple [.int (i : Nat), δ as[i]], ?_, .tup (.inl (.inl upd_same)) (.cons (.int _) (.cons ((dv.kp e (z _ (List.getElem_mem _))).sm sT) .nil))⟩
  rw [List.getElem?_map, List.getElem?_zipIdx, List.getElem?_eq_getElem hi']
  simp
/-- what a comprehension has gathered when D is the new list -/
def LcP (K : PySem.W.Frag) (H1 : Hp) (D : Addr) (ds : Nat → List PyData) (k : Nat) (H2 : Hp) : Prop := (∀ b o, b ≠ D → H1 b = some o → H2 b = some o) ∧ ∃ acc, H2 D = some (.lst acc) ∧ DpAll K H2 acc (ds k) ∧ acc.length ≤ k
theorem lcP_yes {H1 H5 H2 : Hp} {D : Addr} {ds : Nat → List PyData} {k : Nat} {acc : List V} {y : V} {d : PyData} (h : ∀ b o, b ≠ D → H1 b = some o → H2 b = some o) (s25 : Same H2 H5) (eD : H2 D = some (.lst acc)) (ha : DpAll K H2 acc (ds k)) (la : acc.length ≤ k) (dy : Dp K H5 y d)
    (e : ds (k + 1) = ds k ++ [d]) (z : lfAll (ds (k + 1)) = true) : LcP K H1 D ds (k + 1) (upd H5 D (.lst (acc ++ [y]))) := by
  refine ⟨fun b o hb q => by rw [upd_ne hb]; exact s25 _ _ (h b o hb q), acc ++ [y], upd_same, ?_, by rw [List.length_append]; show acc.length + 1 ≤ k + 1; omega⟩
  refine dpAll_kp (Kp.upd (s25 _ _ eD)) _ _ z ?_
  rw [e]
  exact DpAll.append (ha.sm s25) (.cons dy .nil)
theorem lcP_no {H1 H3 H2 : Hp} {D : Addr} {ds : Nat → List PyData} {k : Nat} {acc : List V} (h : ∀ b o, b ≠ D → H1 b = some o → H2 b = some o) (s23 : Same H2 H3) (eD : H2 D = some (.lst acc)) (ha : DpAll K H2 acc (ds k)) (la : acc.length ≤ k)
    (e : ds (k + 1) = ds k) : LcP K H1 D ds (k + 1) H3 :=
  ⟨fun b o hb q => s23 _ _ (h b o hb q), acc, s23 _ _ eD, by rw [e]; exact ha.sm s23, by omega⟩
theorem fil_take {α : Type} {as : List α} {p : α → Bool} {f : α → PyData} {k : Nat} (hk : k < as.length) : (((as.take (k + 1)).filter p).map f) = ((as.take k).filter p).map f ++ if p as[k] then [f as[k]] else [] := by
  rw [List.take_add_one, List.getElem?_eq_getElem hk, Option.toList_some, List.filter_append, List.map_append]
  cases h : p as[k] with
  | true => rw [List.filter_cons_of_pos h]; rfl
  | false => rw [List.filter_cons_of_neg (by rw [h]; exact Bool.false_ne_true)]; rfl
theorem lf_fil {α : Type} {as : List α} {p : α → Bool} {f : α → PyData} (h : ∀ a ∈ as, lf (f a) = true) (k : Nat) : lfAll (((as.take k).filter p).map f) = true := lfAll_of fun d hd => by
  obtain ⟨a, ha, rfl⟩ := List.mem_map.mp hd
  exact h a (List.mem_of_mem_take (List.mem_filter.mp ha).1)
/-- a comprehension, its target one name -/
theorem gn_lc {wi : TI} {tt : TT} {te : TE} {i : Nat} {α : Type} {δ : α → PyData} {as : List α} {p : α → Bool} {f : α → PyData} (hI : GvI K Same wi σ H (as.map δ))
    (hb : ∀ a v H1, a ∈ as → Same H H1 → Dp K H1 v (δ a) → GvT tt ((σ.set i none).set i (some v)) H1 (p a) ∧ (p a = true → Gv K te ((σ.set i none).set i (some v)) H1 (f a)))
    (hf : ∀ a ∈ as, lf (f a) = true) (hn : as.length ≤ 100000) : GvN K (tLc wi (gName i) tt te [i]) σ H ((as.filter p).map f) := by
  intro H0 s0 Q q
  refine hI H0 s0 _ fun J H1 s1 w D nD => ?_
  rw [List.length_map] at w
  refine lc_it w (LcP K H1 D fun k => ((as.take k).filter p).map f) ⟨fun b o hb e => by rw [upd_ne hb]; exact e, [], upd_same, .nil, Nat.zero_le _⟩ (fun k H2 _ hP b o e => hP.1 b o (ne_of_none e nD) e) (fun k x H2 H3 hk hP hY => ?_) (fun H2 hP => ?_)
  · obtain ⟨s2, acc, eD, hacc, la⟩ := hP
    obtain ⟨s3, d, hd, dx⟩ := hY
    rw [List.getElem?_map, List.getElem?_eq_getElem hk] at hd
    cases hd
    have sH : Same H H3 := (s0.trans s1).trans fun b o e => s3 _ _ (s2 b o (ne_of_none e nD) e)
    obtain ⟨g1, g2⟩ := hb as[k] x H3 (List.getElem_mem _) sH dx
    refine ⟨by show ((σ.set i none).set i (some x)).set i none = σ.set i none; rw [List.set_set, List.set_set], g1.at fun H4 s4 => ?_⟩
    cases hp : p as[k] with
    | true =>
      rw [if_pos rfl]
      refine (g2 hp).sm s4 |>.at fun y H5 s5 dy => ⟨acc, s5 _ _ (s4 _ _ (s3 _ _ eD)), small5 (by omega), ?_⟩
      exact lcP_yes s2 ((s3.trans s4).trans s5) eD hacc la dy (by rw [fil_take hk, hp]; rfl) (lf_fil hf _)
    | false =>
      rw [if_neg Bool.false_ne_true]
      exact lcP_no s2 (s3.trans s4) eD hacc la (by rw [fil_take hk, hp]; exact List.append_nil _)
  · obtain ⟨s2, acc, eD, hacc, la⟩ := hP
    replace hacc : DpAll K H2 acc (((as.take as.length).filter p).map f) := hacc
    rw [List.take_length] at hacc
    exact q _ _ H2 (s1.trans fun b o e => s2 b o (ne_of_none e nD) e) (s1.free nD) eD hacc
theorem gl_lc {wi : TI} {tt : TT} {te : TE} {i : Nat} {α : Type} {δ : α → PyData} {as : List α} {p : α → Bool} {f : α → PyData} (hI : GvI K Same wi σ H (as.map δ))
    (hb : ∀ a v H1, a ∈ as → Same H H1 → Dp K H1 v (δ a) → GvT tt ((σ.set i none).set i (some v)) H1 (p a) ∧ (p a = true → Gv K te ((σ.set i none).set i (some v)) H1 (f a)))
    (hf : ∀ a ∈ as, lf (f a) = true) (hn : as.length ≤ 100000) : GvL K (tLc wi (gName i) tt te [i]) σ H ((as.filter p).map f) := (gn_lc hI hb hf hn).gl
theorem gv_lc {wi : TI} {tt : TT} {te : TE} {i : Nat} {α : Type} {δ : α → PyData} {as : List α} {p : α → Bool} {f : α → PyData} (hI : GvI K Same wi σ H (as.map δ))
    (hb : ∀ a v H1, a ∈ as → Same H H1 → Dp K H1 v (δ a) → GvT tt ((σ.set i none).set i (some v)) H1 (p a) ∧ (p a = true → Gv K te ((σ.set i none).set i (some v)) H1 (f a)))
    (hf : ∀ a ∈ as, lf (f a) = true) (hn : as.length ≤ 100000) : Gv K (tLc wi (gName i) tt te [i]) σ H (.list ((as.filter p).map f)) := (gl_lc hI hb hf hn).gv
theorem set_two {i j : Nat} (σ : L2.St) (v u : V) : (((((σ.set j none).set i none).set i (some v)).set j (some u)).set j none).set i none = (σ.set j none).set i none := by
  refine List.ext_getElem? fun k => ?_
  simp only [List.getElem?_set, List.length_set]
  split <;> split <;> (try split) <;> simp_all
/-- the same, its target two names -/
theorem gn_lc2 {wi : TI} {tt : TT} {te : TE} {i j : Nat} {α : Type} {δ1 δ2 : α → PyData} {as : List α} {p : α → Bool} {f : α → PyData} (hI : GvI K Same wi σ H (as.map fun a => .tuple [δ1 a, δ2 a]))
    (hb : ∀ a v u H1, a ∈ as → Same H H1 → Dp K H1 v (δ1 a) → Dp K H1 u (δ2 a) → GvT tt ((((σ.set j none).set i none).set i (some v)).set j (some u)) H1 (p a) ∧ (p a = true → Gv K te ((((σ.set j none).set i none).set i (some v)).set j (some u)) H1 (f a)))
    (hf : ∀ a ∈ as, lf (f a) = true) (hn : as.length ≤ 100000) (hij : i ≠ j) : GvN K (tLc wi (gTup K 2 (gCons (gName i) (gCons (gName j) gNil))) tt te [i, j]) σ H ((as.filter p).map f) := by
  intro H0 s0 Q q
  refine hI H0 s0 _ fun J H1 s1 w D nD => ?_
  rw [List.length_map] at w
  refine lc_it w (LcP K H1 D fun k => ((as.take k).filter p).map f) ⟨fun b o hb e => by rw [upd_ne hb]; exact e, [], upd_same, .nil, Nat.zero_le _⟩ (fun k H2 _ hP b o e => hP.1 b o (ne_of_none e nD) e) (fun k x H2 H3 hk hP hY => ?_) (fun H2 hP => ?_)
  · obtain ⟨s2, acc, eD, hacc, la⟩ := hP
    obtain ⟨s3, d, hd, dx⟩ := hY
    rw [List.getElem?_map, List.getElem?_eq_getElem hk] at hd
    cases hd
    have sH : Same H H3 := (s0.trans s1).trans fun b o e => s3 _ _ (s2 b o (ne_of_none e nD) e)
    obtain ⟨T, xs, rfl, hT, hr⟩ := dx.tupI
    obtain ⟨v, u, rfl, dv, du⟩ := dpAll2 hr
    obtain ⟨g1, g2⟩ := hb as[k] v u H3 (List.getElem_mem _) sH dv du
    refine ⟨T, [v, u], rfl, hT, rfl, v, [u], rfl, u, [], rfl, rfl, ?_, g1.at fun H4 s4 => ?_⟩
    · show (((((σ.set j none).set i none).set i (some v)).set j (some u)).set j none).set i none = (σ.set j none).set i none
      exact set_two _ _ _
    cases hp : p as[k] with
    | true =>
      rw [if_pos rfl]
      refine (g2 hp).sm s4 |>.at fun y H5 s5 dy => ⟨acc, s5 _ _ (s4 _ _ (s3 _ _ eD)), small5 (by omega), ?_⟩
      exact lcP_yes s2 ((s3.trans s4).trans s5) eD hacc la dy (by rw [fil_take hk, hp]; rfl) (lf_fil hf _)
    | false =>
      rw [if_neg Bool.false_ne_true]
      exact lcP_no s2 (s3.trans s4) eD hacc la (by rw [fil_take hk, hp]; exact List.append_nil _)
  · obtain ⟨s2, acc, eD, hacc, la⟩ := hP
    replace hacc : DpAll K H2 acc (((as.take as.length).filter p).map f) := hacc
    rw [List.take_length] at hacc
    exact q _ _ H2 (s1.trans fun b o e => s2 b o (ne_of_none e nD) e) (s1.free nD) eD hacc
theorem gl_lc2 {wi : TI} {tt : TT} {te : TE} {i j : Nat} {α : Type} {δ1 δ2 : α → PyData} {as : List α} {p : α → Bool} {f : α → PyData} (hI : GvI K Same wi σ H (as.map fun a => .tuple [δ1 a, δ2 a]))
    (hb : ∀ a v u H1, a ∈ as → Same H H1 → Dp K H1 v (δ1 a) → Dp K H1 u (δ2 a) → GvT tt ((((σ.set j none).set i none).set i (some v)).set j (some u)) H1 (p a) ∧ (p a = true → Gv K te ((((σ.set j none).set i none).set i (some v)).set j (some u)) H1 (f a)))
    (hf : ∀ a ∈ as, lf (f a) = true) (hn : as.length ≤ 100000) (hij : i ≠ j) : GvL K (tLc wi (gTup K 2 (gCons (gName i) (gCons (gName j) gNil))) tt te [i, j]) σ H ((as.filter p).map f) := (gn_lc2 hI hb hf hn hij).gl
theorem gv_lc2 {wi : TI} {tt : TT} {te : TE} {i j : Nat} {α : Type} {δ1 δ2 : α → PyData} {as : List α} {p : α → Bool} {f : α → PyData} (hI : GvI K Same wi σ H (as.map fun a => .tuple [δ1 a, δ2 a]))
    (hb : ∀ a v u H1, a ∈ as → Same H H1 → Dp K H1 v (δ1 a) → Dp K H1 u (δ2 a) → GvT tt ((((σ.set j none).set i none).set i (some v)).set j (some u)) H1 (p a) ∧ (p a = true → Gv K te ((((σ.set j none).set i none).set i (some v)).set j (some u)) H1 (f a)))
    (hf : ∀ a ∈ as, lf (f a) = true) (hn : as.length ≤ 100000) (hij : i ≠ j) : Gv K (tLc wi (gTup K 2 (gCons (gName i) (gCons (gName j) gNil))) tt te [i, j]) σ H (.list ((as.filter p).map f)) := (gl_lc2 hI hb hf hn hij).gv
/-! ### statements -/
theorem gs_set {t : TE} {i : Nat} {d : PyData} {D : Ends} (h : Gv K t σ H d) (q : ∀ v H', Same H H' → Dp K H' v d → D.nx (σ.set i (some v)) H') : tAsg t (gName i) D σ H := h.at fun v H' s dv => q v H' s dv
theorem gs_ret {t : TE} {d : PyData} {D : Ends} (h : Gv K t σ H d) (q : ∀ v H', Same H H' → Dp K H' v d → D.rt v H') : tRet t D σ H := h.at q
theorem gs_if {c : TT} {b : Bool} {t u : TS} {D : Ends} (h : GvT c σ H b) (h1 : b = true → ∀ H', Same H H' → t D σ H') (h2 : b = false → ∀ H', Same H H' → u D σ H') : tIfS c t u D σ H := h.at fun H' s => by
  cases b with
  | true => rw [if_pos rfl]; exact h1 rfl H' s
  | false => rw [if_neg Bool.false_ne_true]; exact h2 rfl H' s
/-- a loop: Pv by the heap at its start, the turn, the slots and the heap -/
theorem gs_for {wi : TI} {g : TG} {tb : TS} {D : Ends} {ds : List PyData} (hI : GvI K R wi σ H ds) (Pv : Hp → Nat → L2.St → Hp → Prop) (h0 : ∀ H1, Same H H1 → Pv H1 0 σ H1) (hS : ∀ H1 k σ' H', Same H H1 → Pv H1 k σ' H' → R H1 H')
    (hs : ∀ H1 k x d σ' H' H'', Same H H1 → ds[k]? = some d → Pv H1 k σ' H' → Same H' H'' → Dp K H'' x d → g x σ' H'' fun σ2 H2 => tb { D with nx := Pv H1 (k + 1), ct := Pv H1 (k + 1), bk := D.nx } σ2 H2)
    (hd : ∀ H1 σ' H', Same H H1 → Pv H1 ds.length σ' H' → D.nx σ' H') : tFor wi g tb D σ H := by
  refine hI H (Same.refl _) _ fun J H1 s1 w => ?_
  refine for_it w (Pv H1) (h0 H1 s1) (fun k σ' H' _ hP => hS H1 k σ' H' s1 hP) (fun k x σ' H' H'' hk hP hY => ?_) (fun σ' H' hP => hd H1 σ' H' s1 hP)
  obtain ⟨s3, d, hd', dx⟩ := hY
  exact hs H1 k x d σ' H' H'' s1 hd' hP s3 dx
end
end Pr
/-! More rules and what they give. -/
namespace Pr
open PySem PySem.Spec PyProof.Rows L2
/-! ### xs[::-1] of a list -/
theorem pick_backL (l : List Value) : slicePick l.toArray none none (some (-1)) = l.reverse.toArray := by
  unfold slicePick
  have e : sliceBounds none none (some (-1)) l.toArray.size = ((l.length : Int) - 1, -1, -1) := by
    unfold sliceBounds
    simp
  rw [e]
  unfold sliceRange
  dsimp only
  rw [if_neg (by decide)]
  have hc : (if (l.length : Int) - 1 > -1 then ((l.length : Int) - 1 - -1 - -1 - 1) / (- -1) else 0) = (l.length : Int) := by
    split
    · simp only [Int.neg_neg, Int.ediv_one]; omega
    · omega
  rw [hc, Int.toNat_natCast, List.filterMap_map]
  have := pick_back l
  have e2 : ((fun x => l.toArray[x]?) ∘ fun (k : Nat) => ((l.length : Int) - 1 + -1 * (k : Int)).toNat) = fun (k : Nat) => l[(((l.length : Int) - 1) + (k : Int) * (-1)).toNat]? := by
    funext k
    show l.toArray[((l.length : Int) - 1 + -1 * (k : Int)).toNat]? = _
    rw [List.getElem?_toArray, show -1 * (k : Int) = (k : Int) * -1 by omega]
  rw [e2, this]
section
variable {X : Cx}
def tRevL (K : PySem.W.Frag) (te : TE) : TE := fun σ H Q => te σ H fun x H1 => ∃ a xs, x = .ref a ∧ SqL K H1 a xs ∧ ∀ p, H1 p = none → Q (.ref p) (upd H1 p (.lst xs.reverse))
theorem pe_revL {e : Expr} {te : TE} {k : Nat} {p1 p2 p3 pos : Pos} (he : PE X e te) : PE X (.Subscript e (.Slice none none (some (.UnaryOp .USub (.Constant (.int 1) k p1) p2)) p3) pos) (tRevL X.K te) := by
  refine ⟨fun pins s σ H Q I h => Subscript_ (thn (he.run pins s σ H _ I h) fun v s1 ⟨x, H1, I1, r1, a, xs, ex, hx, q⟩ => ?_)⟩
  subst ex
  cases r1
  have hst : PO X (some (.UnaryOp .USub (.Constant (.int 1) k p1) p2)) (tPart (tUn (rU fun i => .int (-i)) (tC (.int 1)))) := po_some (pe_un un_neg pe_int)
  refine wpAny_Slice (thn (po_none.run pins s1 σ H1 (fun o H2 => o = none ∧ H2 = H1) I1 ⟨rfl, rfl⟩) fun vl s2 ⟨l, H2, I2, pl, el, e2⟩ => ?_)
  subst el e2
  refine thn (po_none.run pins s2 σ H2 (fun o H3 => o = none ∧ H3 = H2) I2 ⟨rfl, rfl⟩) fun vu s3 ⟨u, H3, I3, pu, eu, e3⟩ => ?_
  subst eu e3
  refine thn (hst.run pins s3 σ H3 (fun o H4 => o = some (-1) ∧ H4 = H3) I3 ⟨1, rfl, -1, rfl, rfl, rfl⟩) fun vs s4 ⟨o, H4, I4, ps, eo, e4⟩ => ?_
  subst eo e4
  cases pl
  cases pu
  have I5 : Inv X pins σ H4 { s4 with heap := s4.heap.push { cls := .type "slice", data := .fields #[.none, .none, vs] } } := I4.kept (t' := s4.toks) fun b ob q => Heap.get?_push_of_some _ q
  obtain ⟨its, r, ht, hz⟩ := I5.list hx
  have hlen := r.length
  show wpAny (model X.prog X.w) X.A (subscriptTail e (.Slice none none (some (.UnaryOp .USub (.Constant (.int 1) k p1) p2)) p3) (.ref a) (.ref s4.heap.objs.size)) (EP X pins σ Q) X.xe { s4 with heap := s4.heap.push { cls := .type "slice", data := .fields #[.none, .none, vs] } }
  refine tail_any (ops := [.ref a, .ref s4.heap.objs.size]) ht.isList.typeIs (slot_list_getitem.lookup) ?_ (by with_unfolding_all rfl)
  refine wpAny_getItem_list_slice ht.isList (Heap.IsSliceOf.new _ .none .none vs) .none .none ps (by decide) ?_ (by rw [List.size_toArray]; omega)
  rw [pick_backL]
  refine ⟨.ref _, _, I5.laid (t' := s4.toks) (o := .lst xs.reverse) (fun b ob q => Heap.get?_push_of_some _ q) (Nat.le_refl _) ?_, rfl, q _ (I5.hok.fresh (Nat.le_refl _))⟩
  exact ⟨by rw [List.length_reverse]; exact hz, _, 0, r.reverse, Heap.get?_push_size _ rfl⟩
end
section
variable {K : PySem.W.Frag} {σ : L2.St} {H : Hp} {t ta tb : TE} {d e : PyData} {ds es : List PyData}
theorem dpAll_set {K : PySem.W.Frag} {H : Hp} {v : V} {d : PyData} (hd : Dp K H v d) : ∀ {vs : List V} {ds : List PyData} (i : Nat), DpAll K H vs ds → DpAll K H (vs.set i v) (ds.set i d)
  | [], [], _, .nil => .nil
  | _ :: _, _ :: _, 0, .cons _ t => .cons hd t
  | _ :: _, _ :: _, i + 1, .cons q t => .cons q (dpAll_set hd i t)
theorem gs_if1 {c : TT} {b : Bool} {t u : TS} {D : Ends} (h : GvT c σ H b) (h1 : b = true → ∀ H', Same H H' → t { D with nx := u D } σ H') (h2 : b = false → ∀ H', Same H H' → u D σ H') : tSeq (tIfS c t tNext) u D σ H := gs_if h h1 h2
theorem gs_set1 {i : Nat} {u : TS} {D : Ends} (h : Gv K t σ H d) (q : ∀ v H', Same H H' → Dp K H' v d → u D (σ.set i (some v)) H') : tSeq (tAsg t (gName i)) u D σ H := h.at fun v H' s dv => q v H' s dv
/-- a test that comes out false, what stands under it not reached -/
theorem gs_no {c : TT} {t u : TS} {D : Ends} {b : Bool} (h : GvT c σ H b) (hb : b = false) (h2 : ∀ H', Same H H' → u D σ H') : tSeq (tIfS c t tNext) u D σ H := gs_if h (fun e => by rw [hb] at e; cases e) fun _ => h2
theorem gs_noN {c : TT} {t : TS} {D : Ends} {b : Bool} (h : GvT c σ H b) (hb : b = false) (h2 : ∀ H', Same H H' → D.nx σ H') : tIfS c t tNext D σ H := gs_if h (fun e => by rw [hb] at e; cases e) fun _ => h2
/-- for i in range(n) -/
theorem gs_range {n i : Nat} {tb : TS} {D : Ends} (h : Gv K t σ H (.int n)) (hn : n < 2 ^ 62) (Pv : Hp → Nat → L2.St → Hp → Prop) (h0 : ∀ H1, Same H H1 → Pv H1 0 σ H1)
    (hs : ∀ H1 k σ' H', Same H H1 → k < n → Pv H1 k σ' H' → tb { D with nx := Pv H1 (k + 1), ct := Pv H1 (k + 1), bk := D.nx } (σ'.set i (some (.int (k : Int)))) H')
    (hd : ∀ H1 σ' H', Same H H1 → Pv H1 n σ' H' → D.nx σ' H') : tFor (iRng1 (tCons t tNil)) (gName i) tb D σ H := by
  refine h.at fun v H1 s1 d1 => ?_
  cases d1
  refine ⟨(n : Int), rfl, by omega, by omega, ?_⟩
  rw [Int.toNat_natCast]
  refine for_range (Pv H1) (h0 H1 s1) (fun k σ' H' hk hP => ?_) (fun σ' H' hP => hd H1 σ' H' s1 hP)
  rw [Int.zero_add]
  exact hs H1 k σ' H' s1 hk hP
/-- for x in a list or a tuple -/
theorem gs_each {i : Nat} {tb : TS} {D : Ends} {R : Hp → Hp → Prop} {wi : TI} {α : Type} {δ : α → PyData} {as : List α} (hI : GvI K R wi σ H (as.map δ)) (Pv : Hp → Nat → L2.St → Hp → Prop) (h0 : ∀ H1, Same H H1 → Pv H1 0 σ H1) (hS : ∀ H1 k σ' H', Same H H1 → Pv H1 k σ' H' → R H1 H')
    (hs : ∀ H1 k a v σ' H' H'', Same H H1 → as[k]? = some a → Pv H1 k σ' H' → Same H' H'' → Dp K H'' v (δ a) → tb { D with nx := Pv H1 (k + 1), ct := Pv H1 (k + 1), bk := D.nx } (σ'.set i (some v)) H'')
    (hd : ∀ H1 σ' H', Same H H1 → Pv H1 as.length σ' H' → D.nx σ' H') : tFor wi (gName i) tb D σ H := by
  refine gs_for hI Pv h0 hS (fun H1 k x d σ' H' H'' s1 hd' hP s2 dx => ?_) (fun H1 σ' H' s1 hP => hd H1 σ' H' s1 (by rwa [List.length_map] at hP))
  rw [List.getElem?_map] at hd'
  cases e : as[k]? with
  | none => rw [e] at hd'; cases hd'
  | some a => rw [e] at hd'; cases hd'; exact hs H1 k a x σ' H' H'' s1 e hP s2 dx
/-- for a, b in pairs -/
theorem gs_each2 {i j : Nat} {tb : TS} {D : Ends} {R : Hp → Hp → Prop} {wi : TI} {α : Type} {δ1 δ2 : α → PyData} {as : List α} (hI : GvI K R wi σ H (as.map fun a => .tuple [δ1 a, δ2 a])) (Pv : Hp → Nat → L2.St → Hp → Prop) (h0 : ∀ H1, Same H H1 → Pv H1 0 σ H1) (hS : ∀ H1 k σ' H', Same H H1 → Pv H1 k σ' H' → R H1 H')
    (hs : ∀ H1 k a v u σ' H' H'', Same H H1 → as[k]? = some a → Pv H1 k σ' H' → Same H' H'' → Dp K H'' v (δ1 a) → Dp K H'' u (δ2 a) → tb { D with nx := Pv H1 (k + 1), ct := Pv H1 (k + 1), bk := D.nx } ((σ'.set i (some v)).set j (some u)) H'')
    (hd : ∀ H1 σ' H', Same H H1 → Pv H1 as.length σ' H' → D.nx σ' H') : tFor wi (gTup K 2 (gCons (gName i) (gCons (gName j) gNil))) tb D σ H := by
  refine gs_for hI Pv h0 hS (fun H1 k x d σ' H' H'' s1 hd' hP s2 dx => ?_) (fun H1 σ' H' s1 hP => hd H1 σ' H' s1 (by rwa [List.length_map] at hP))
  rw [List.getElem?_map] at hd'
  cases e : as[k]? with
  | none => rw [e] at hd'; cases hd'
  | some a =>
    rw [e] at hd'; cases hd'
    obtain ⟨T, xs, rfl, hT, hr⟩ := dx.tupI
    obtain ⟨v, u, rfl, dv, du⟩ := dpAll2 hr
    exact ⟨T, [v, u], rfl, hT, rfl, v, [u], rfl, u, [], rfl, rfl, hs H1 k a v u σ' H' H'' s1 e hP s2 dv du⟩
theorem gv_un {r : V → Hp → VK → Prop} (h : Gv K t σ H d) {f : PyData} (hr : ∀ x H1 Q, Same H H1 → Dp K H1 x d → (∀ v H', Same H1 H' → Dp K H' v f → Q v H') → r x H1 Q) : Gv K (tUn r t) σ H f := fun H1 s Q q =>
  h H1 s _ fun v H2 s2 d2 => hr v H2 Q (s.trans s2) d2 fun v H3 s3 d3 => q v H3 (s2.trans s3) d3
theorem gv_neg {i : Int} (h : Gv K t σ H (.int i)) : Gv K (tUn (rU fun i => .int (-i)) t) σ H (.int (-i)) := gv_un h fun x H1 Q s hx q => by cases hx; exact ⟨i, rfl, q _ _ (Same.refl _) (.int _)⟩
theorem gn_revL (h : Gv K t σ H (.list ds)) : GvN K (tRevL K t) σ H ds.reverse := fun H1 s Q q => h H1 s _ fun v H2 s2 d2 => by
  obtain ⟨a, xs, rfl, hq, hr⟩ := d2.lstI
  exact ⟨a, xs, rfl, hq, fun p np => q _ _ _ (s2.trans (same_new np)) (s2.free np) upd_same (hr.reverse.sm (same_new np))⟩
theorem gl_revL (h : Gv K t σ H (.list ds)) : GvL K (tRevL K t) σ H ds.reverse := (gn_revL h).gl
theorem gn_cat (ha : GvL K ta σ H ds) (hb : GvL K tb σ H es) (hn : ds.length + es.length ≤ 100000) : GvN K (tOp rCat ta tb) σ H (ds ++ es) := fun H1 s Q q =>
  ha H1 s _ fun a xs H2 s2 ea da => hb H2 (s.trans s2) _ fun b ys H3 s3 eb db =>
    ⟨a, b, xs, ys, rfl, rfl, s3 _ _ ea, eb, by rw [da.length, db.length]; exact Nat.le_of_lt (small5 hn), fun p np => q _ _ _ ((s2.trans s3).trans (same_new np)) ((s2.trans s3).free np) upd_same (DpAll.append (da.sm (s3.trans (same_new np))) (db.sm (same_new np)))⟩
theorem gl_cat (ha : GvL K ta σ H ds) (hb : GvL K tb σ H es) (hn : ds.length + es.length ≤ 100000) : GvL K (tOp rCat ta tb) σ H (ds ++ es) := (gn_cat ha hb hn).gl
theorem gs_setN {i : Nat} {u : TS} {D : Ends} (h : GvN K t σ H ds) (q : ∀ a vs H', Same H H' → H a = none → H' a = some (.lst vs) → DpAll K H' vs ds → u D (σ.set i (some (.ref a))) H') : tSeq (tAsg t (gName i)) u D σ H := h.at fun a vs H' s n e dv => q a vs H' s n e dv
theorem gs_setL {i : Nat} {u : TS} {D : Ends} (h : GvL K t σ H ds) (q : ∀ a vs H', Same H H' → H' a = some (.lst vs) → DpAll K H' vs ds → u D (σ.set i (some (.ref a))) H') : tSeq (tAsg t (gName i)) u D σ H := h.at fun a vs H' s e dv => q a vs H' s e dv
theorem gv_revL (h : Gv K t σ H (.list ds)) : Gv K (tRevL K t) σ H (.list ds.reverse) := fun H1 s Q q => h H1 s _ fun v H2 s2 d2 => by
  obtain ⟨a, xs, rfl, hq, hr⟩ := d2.lstI
  exact ⟨a, xs, rfl, hq, fun p np => q _ _ (s2.trans (same_new np)) (.lst (.inl (.inl upd_same)) (hr.reverse.sm (same_new np)))⟩
theorem gv_revT (h : Gv K t σ H (.tuple ds)) : Gv K (tRevT K t) σ H (.tuple ds.reverse) := fun H1 s Q q => h H1 s _ fun v H2 s2 d2 => by
  obtain ⟨a, xs, rfl, hq, hr⟩ := d2.tupI
  exact ⟨a, xs, rfl, hq, fun p np => q _ _ (s2.trans (same_new np)) (.tup (.inl (.inl upd_same)) (hr.reverse.sm (same_new np)))⟩
/-- tuple(range(n)) -/
theorem gv_tupRg {n : Nat} (h : Gv K t σ H (.int n)) (hn : n ≤ 100000) : Gv K (tTupRg (tRg1 t)) σ H (dInts ((List.range n).map fun i : Nat => (i : Int))) := fun H1 s Q q => h H1 s _ fun v H2 s2 d2 => by
  cases d2
  refine ⟨_, rfl, ⟨by omega, by omega, by omega, by omega, ?_⟩, fun p np => q _ _ (s2.trans (same_new np)) ?_⟩
  · have := small5 hn; omega
  · refine dp_ints (.inl (.inl ?_))
    rw [upd_same]
    unfold rgV
    rw [List.map_map, Int.sub_zero, Int.toNat_natCast]
    congr 2
    refine List.map_congr_left fun i _ => ?_
    show V.int (0 + (i : Int)) = V.int (i : Int)
    rw [Int.zero_add]
theorem gv_catT (ha : Gv K ta σ H (.tuple ds)) (hb : Gv K tb σ H (.tuple es)) (hn : ds.length + es.length ≤ 100000) : Gv K (tOp (rCatS K) ta tb) σ H (.tuple (ds ++ es)) :=
  gv_op2 ha hb fun x y H1 Q s hx hy q => by
    obtain ⟨a, xs, rfl, hq, hr⟩ := hx.tupI
    obtain ⟨b, ys, rfl, hq2, hr2⟩ := hy.tupI
    exact ⟨a, b, xs, ys, rfl, rfl, hq, hq2, by rw [hr.length, hr2.length]; exact Nat.le_of_lt (small5 hn), fun p H' s' hp => q _ _ s' (.tup hp (DpAll.append (hr.sm s') (hr2.sm s')))⟩
theorem cut_dp {ds : List PyData} {xs : List V} (h : DpAll K H xs ds) (lo hi : Option Int) : DpAll K H (cutV xs lo hi) ((ds.drop (HT.sIx ds.length 0 lo)).take (HT.sIx ds.length ds.length hi - HT.sIx ds.length 0 lo)) := by
  unfold cutV
  rw [h.length]
  exact (h.drop _).take _
end
end Pr
/-! Known tuples: tuple(range(n)), t[::-1], t.index(k). -/
namespace Pr
open PySem PySem.Spec PyProof.Rows L2
section
variable {X : Cx}
def tTupRgF (te : L2.St → Hp → (Int → Int → Hp → Prop) → Prop) : TE := fun σ H Q => te σ H fun a b H1 => RgOk a b ∧ ∀ q o, H1 q = none → o.dict = none → Q (.ref q) (upd H1 q (.frz o (.tup (rgV a b))))
theorem pe_tupRgF {e : Expr} {te : L2.St → Hp → (Int → Int → Hp → Prop) → Prop} {p pos : Pos} (hc : X.calm = true) (hg : Gl X "tuple") (hm : X.mg "tuple" = none) (he : PRg X e te) (na : starEach [e] X.env = (false, eval e X.env) :: starEach [] X.env := by rfl) : PE X (.Call (.Name "tuple" p) [e] [] pos) (tTupRgF te) := by
  refine ⟨fun pins s σ H Q I h => ?_⟩
  refine Call_ (ld_blt I hg hm boot_tuple (PyProof.Rows.callWith_type1 (args_cons (thn (he pins s σ H _ I h) fun x s1 ⟨r, a, b, t, u, v, H1, ex, hr, I1, ok, q⟩ => args_nil ?_) na) na))
  subst ex
  obtain ⟨b1, b2, b3, b4, b5⟩ := ok
  refine call_tuple_range (n := (b - a).toNat) (I1.ok.hd hc) hr (small_one b1 b2 b3 b4) (rangeSize_nat a b) b5 fun h' tk acc hk hi => ?_
  have I2 : Inv X pins σ H1 { s1 with heap := h', toks := tk } := I1.kept hk
  have z : (rgV a b).length ≤ sizeLine := by rw [rgV_length, sizeLine_eq]; omega
  refine ⟨.ref h'.objs.size, upd H1 h'.objs.size (.frz { cls := .type "tuple", data := .seq acc } (.tup (rgV a b))), I2.laid (t' := tk) (fun c o e => Heap.get?_push_of_some _ e) (Nat.le_refl _) ?_, rfl, q _ _ (I2.hok.fresh (Nat.le_refl _)) rfl⟩
  refine ⟨Heap.get?_push_size _ rfl, z, acc.toList, vals_rg hi, ?_⟩
  rw [Array.toArray_toList]; exact IsTup.new _ _
def tRevTF (K : PySem.W.Frag) (te : TE) : TE := fun σ H Q => te σ H fun x H1 => ∃ a xs, x = .ref a ∧ SqT K H1 a xs ∧ ∀ p o, H1 p = none → o.dict = none → Q (.ref p) (upd H1 p (.frz o (.tup xs.reverse)))
theorem pe_revTF {e : Expr} {te : TE} {k : Nat} {p1 p2 p3 pos : Pos} (he : PE X e te) : PE X (.Subscript e (.Slice none none (some (.UnaryOp .USub (.Constant (.int 1) k p1) p2)) p3) pos) (tRevTF X.K te) := by
  refine ⟨fun pins s σ H Q I h => Subscript_ (thn (he.run pins s σ H _ I h) fun v s1 ⟨x, H1, I1, r1, a, xs, ex, hx, q⟩ => ?_)⟩
  subst ex
  cases r1
  have hst : PO X (some (.UnaryOp .USub (.Constant (.int 1) k p1) p2)) (tPart (tUn (rU fun i => .int (-i)) (tC (.int 1)))) := po_some (pe_un un_neg pe_int)
  refine wpAny_Slice (thn (po_none.run pins s1 σ H1 (fun o H2 => o = none ∧ H2 = H1) I1 ⟨rfl, rfl⟩) fun vl s2 ⟨l, H2, I2, pl, el, e2⟩ => ?_)
  subst el e2
  refine thn (po_none.run pins s2 σ H2 (fun o H3 => o = none ∧ H3 = H2) I2 ⟨rfl, rfl⟩) fun vu s3 ⟨u, H3, I3, pu, eu, e3⟩ => ?_
  subst eu e3
  refine thn (hst.run pins s3 σ H3 (fun o H4 => o = some (-1) ∧ H4 = H3) I3 ⟨1, rfl, -1, rfl, rfl, rfl⟩) fun vs s4 ⟨o, H4, I4, ps, eo, e4⟩ => ?_
  subst eo e4
  cases pl
  cases pu
  have I5 : Inv X pins σ H4 { s4 with heap := s4.heap.push { cls := .type "slice", data := .fields #[.none, .none, vs] } } := I4.kept (t' := s4.toks) fun b ob q => Heap.get?_push_of_some _ q
  obtain ⟨its, r, ht, hz⟩ := I5.tuple hx
  have hlen := r.length
  show wpAny (model X.prog X.w) X.A (subscriptTail e (.Slice none none (some (.UnaryOp .USub (.Constant (.int 1) k p1) p2)) p3) (.ref a) (.ref s4.heap.objs.size)) (EP X pins σ Q) X.xe { s4 with heap := s4.heap.push { cls := .type "slice", data := .fields #[.none, .none, vs] } }
  refine tail_any (ops := [.ref a, .ref s4.heap.objs.size]) ht.typeIs (PyProof.Rows.slot_tuple_getitem.lookup) ?_ (by with_unfolding_all rfl)
  refine getItem_tuple_back ht (Heap.IsSliceOf.new _ .none .none vs) ps ?_ (by omega)
  refine ⟨.ref _, _, I5.laid (t' := s4.toks) (o := .frz { cls := .type "tuple", data := .seq its.reverse.toArray } (.tup xs.reverse)) (fun b ob q => Heap.get?_push_of_some _ q) (Nat.le_refl _) ?_, rfl, q _ _ (I5.hok.fresh (Nat.le_refl _)) rfl⟩
  exact ⟨Heap.get?_push_size _ rfl, by rw [List.length_reverse]; exact hz, _, r.reverse, IsTup.new _ _⟩
end
theorem rgV_intL (n : Nat) : rgV 0 (n : Int) = (intL n).map V.int := by
  unfold rgV intL
  rw [List.map_map, Int.sub_zero, Int.toNat_natCast]
  refine List.map_congr_left fun i _ => ?_
  show V.int (0 + (i : Int)) = V.int (i : Int)
  rw [Int.zero_add]
theorem idx_at {l : List Int} {k : Int} (h : k ∈ l) : l[l.idxOf k]? = some k ∧ ∀ m, m < l.idxOf k → l[m]? ≠ some k := by
  induction l with
  | nil => cases h
  | cons x r ih =>
    by_cases e : x = k
    · subst e
      rw [List.idxOf_cons_self]
      exact ⟨rfl, fun m h => by omega⟩
    · obtain ⟨h1, h2⟩ := ih ((List.mem_cons.mp h).resolve_left (Ne.symm e))
      rw [List.idxOf_cons, show (x == k) = false from beq_eq_false_iff_ne.mpr e, cond_false]
      refine ⟨by simpa using h1, fun m hm => ?_⟩
      cases m with
      | zero => simp; exact e
      | succ m => simpa using h2 m (by omega)
section
variable {K : PySem.W.Frag} {σ : L2.St} {H : Hp} {t ta tb : TE} {d e : PyData} {ds es : List PyData}
theorem gv_index {i : Nat} {p : Addr} {l : List Int} {k : Int} (hv : σ[i]? = some (some (.ref p))) (hF : FT H p (l.map V.int)) (ha : Gv K ta σ H (.int k)) (hk : k ∈ l) : Gv K (tTM (rIdxT K) (tVar i) (tCons ta tNil)) σ H (.int (l.idxOf k : Nat)) := fun H1 s Q q =>
  ⟨.ref p, hv, ⟨p, _, rfl, hF.same s⟩, ha H1 s _ fun v H2 s2 d2 => by
    cases d2
    exact ⟨p, l, k, l.idxOf k, rfl, rfl, ((hF.same s).same s2).sq, (idx_at hk).1, (idx_at hk).2, q _ _ s2 (.int _)⟩⟩
/-- a, b = x, y, plain names -/
theorem gs_par {i j : Nat} {ta : TA} {u : TS} {D : Ends} (h : GvA K ta σ H [d, e]) (q : ∀ v z H', Same H H' → Dp K H' v d → Dp K H' z e → u D ((σ.set i (some v)).set j (some z)) H') : tSeq (tPar i j ta) u D σ H := h H (Same.refl _) _ fun vs H' s dv => by
  obtain ⟨v, z, rfl, d1, d2⟩ := dpAll2 dv
  exact ⟨v, z, rfl, q v z H' s d1 d2⟩
/-- a, b = x, y -/
theorem gs_two {i j : Nat} {u : TS} {D : Ends} (h : Gv K t σ H (.tuple [d, e])) (q : ∀ v z H', Same H H' → Dp K H' v d → Dp K H' z e → u D ((σ.set i (some v)).set j (some z)) H') : tSeq (tAsg t (gTup K 2 (gCons (gName i) (gCons (gName j) gNil)))) u D σ H := h.at fun v H' s dv => by
  obtain ⟨T, xs, rfl, hT, hr⟩ := dv.tupI
  obtain ⟨v, z, rfl, d1, d2⟩ := dpAll2 hr
  exact ⟨T, [v, z], rfl, hT, rfl, v, [z], rfl, z, [], rfl, rfl, q v z H' s d1 d2⟩
theorem gs_three {i j k : Nat} {f : PyData} {u : TS} {D : Ends} (h : Gv K t σ H (.tuple [d, e, f])) (q : ∀ v z w H', Same H H' → Dp K H' v d → Dp K H' z e → Dp K H' w f → u D (((σ.set i (some v)).set j (some z)).set k (some w)) H') : tSeq (tAsg t (gTup K 3 (gCons (gName i) (gCons (gName j) (gCons (gName k) gNil))))) u D σ H := h.at fun v H' s dv => by
  obtain ⟨T, xs, rfl, hT, hr⟩ := dv.tupI
  obtain ⟨v, z, w, rfl, d1, d2, d3⟩ := dpAll3 hr
  exact ⟨T, [v, z, w], rfl, hT, rfl, v, [z, w], rfl, z, [w], rfl, w, [], rfl, rfl, q v z w H' s d1 d2 d3⟩
end
/-! ### a comprehension whose items are new lists -/
def LcN (K : PySem.W.Frag) (H1 : Hp) (D : Addr) (fs : Nat → List (List PyData)) (k : Nat) (H2 : Hp) : Prop := (∀ b o, b ≠ D → H1 b = some o → H2 b = some o) ∧ ∃ As : List Addr, H2 D = some (.lst (As.map V.ref)) ∧ D ∉ As ∧ Paired (fun A ds => ∃ vs, H2 A = some (.lst vs) ∧ DpAll K H2 vs ds) As (fs k) ∧ As.length ≤ k
theorem paired_mono_mem {α β : Type} {F G : α → β → Prop} : ∀ {l1 : List α} {l2 : List β}, Paired F l1 l2 → (∀ a b, a ∈ l1 → b ∈ l2 → F a b → G a b) → Paired G l1 l2
  | _, _, .nil, _ => .nil
  | _, _, .cons r t, h => .cons (h _ _ List.mem_cons_self List.mem_cons_self r) (paired_mono_mem t fun a b ha hb => h a b (List.mem_cons_of_mem _ ha) (List.mem_cons_of_mem _ hb))
theorem dpAll_of_pairs {K : PySem.W.Frag} {H : Hp} : ∀ {As : List Addr} {fs : List (List PyData)}, Paired (fun A ds => ∃ vs, H A = some (.lst vs) ∧ DpAll K H vs ds) As fs → DpAll K H (As.map V.ref) (fs.map PyData.list)
  | _, _, .nil => .nil
  | _, _, .cons ⟨vs, e, d⟩ t => .cons (.lst (.inl (.inl e)) d) (dpAll_of_pairs t)
theorem gn_lcN {K : PySem.W.Frag} {σ : L2.St} {H : Hp} {wi : TI} {tt : TT} {te : TE} {i : Nat} {α : Type} {δ : α → PyData} {as : List α} {p : α → Bool} {f : α → List PyData} (hI : GvI K Same wi σ H (as.map δ))
    (hb : ∀ a v H1, a ∈ as → Same H H1 → Dp K H1 v (δ a) → GvT tt ((σ.set i none).set i (some v)) H1 (p a) ∧ (p a = true → GvN K te ((σ.set i none).set i (some v)) H1 (f a)))
    (hf : ∀ a ∈ as, lfAll (f a) = true) (hn : as.length ≤ 100000) : GvN K (tLc wi (gName i) tt te [i]) σ H ((as.filter p).map fun a => PyData.list (f a)) := by
  intro H0 s0 Q q
  refine hI H0 s0 _ fun J H1 s1 w D nD => ?_
  rw [List.length_map] at w
  refine lc_it w (LcN K H1 D fun k => ((as.take k).filter p).map f) ⟨fun b o hb e => by rw [upd_ne hb]; exact e, [], upd_same, by simp, .nil, Nat.zero_le _⟩ (fun k H2 _ hP b o e => hP.1 b o (ne_of_none e nD) e) (fun k x H2 H3 hk hP hY => ?_) (fun H2 hP => ?_)
  · obtain ⟨s2, As, eD, nDA, hp, la⟩ := hP
    obtain ⟨s3, d, hd, dx⟩ := hY
    rw [List.getElem?_map, List.getElem?_eq_getElem hk] at hd
    cases hd
    have sH : Same H H3 := (s0.trans s1).trans fun b o e => s3 _ _ (s2 b o (ne_of_none e nD) e)
    obtain ⟨g1, g2⟩ := hb as[k] x H3 (List.getElem_mem _) sH dx
    refine ⟨by show ((σ.set i none).set i (some x)).set i none = σ.set i none; rw [List.set_set, List.set_set], g1.at fun H4 s4 => ?_⟩
    have et : ∀ b, p as[k] = b → ((as.take (k + 1)).filter p).map f = ((as.take k).filter p).map f ++ if b then [f as[k]] else [] := fun b hb => by
      rw [List.take_add_one, List.getElem?_eq_getElem hk, Option.toList_some, List.filter_append, List.map_append]
      cases b with
      | true => rw [List.filter_cons_of_pos hb]; rfl
      | false => rw [List.filter_cons_of_neg (by rw [hb]; exact Bool.false_ne_true)]; rfl
    cases hpk : p as[k] with
    | true =>
      rw [if_pos rfl]
      refine g2 hpk H4 s4 _ fun A vs H5 s5 nA eA dA => ⟨As.map V.ref, s5 _ _ (s4 _ _ (s3 _ _ eD)), by rw [List.length_map]; exact small5 (by omega), ?_⟩
      have s35 := (s3.trans s4).trans s5
      have eD4 := s4 _ _ (s3 _ _ eD)
      have AD : A ≠ D := fun z => by rw [z, eD4] at nA; cases nA
      have kD : Kp H5 (upd H5 D (.lst (As.map V.ref ++ [V.ref A]))) := Kp.upd (s35 _ _ eD)
      refine ⟨fun b o hb e => by rw [upd_ne hb]; exact s35 _ _ (s2 b o hb e), As ++ [A], by rw [upd_same, List.map_append]; rfl, fun z => ?_, ?_, by rw [List.length_append]; show As.length + 1 ≤ k + 1; omega⟩
      · rcases List.mem_append.mp z with z | z
        · exact nDA z
        · exact AD (List.mem_singleton.mp z).symm
      · show Paired _ _ (((as.take (k + 1)).filter p).map f)
        rw [et true hpk]
        refine Paired.snoc (paired_mono_mem hp fun A' ds hA' hds ⟨vs', e', d'⟩ => ⟨vs', by rw [upd_ne (show A' ≠ D from fun z => nDA (by rw [← z]; exact hA'))]; exact s35 _ _ e', ?_⟩) ⟨vs, by rw [upd_ne AD]; exact eA, dpAll_kp kD _ _ (hf _ (List.getElem_mem _)) dA⟩
        obtain ⟨a', ha', rfl⟩ := List.mem_map.mp hds
        exact dpAll_kp kD _ _ (hf _ (List.mem_of_mem_take (List.mem_filter.mp ha').1)) (d'.sm s35)
    | false =>
      rw [if_neg Bool.false_ne_true]
      have s34 := s3.trans s4
      refine ⟨fun b o hb e => s34 _ _ (s2 b o hb e), As, s34 _ _ eD, nDA, ?_, by omega⟩
      show Paired _ _ (((as.take (k + 1)).filter p).map f)
      rw [et false hpk]
      show Paired _ _ (_ ++ [])
      rw [List.append_nil]
      exact hp.mono fun A' ds ⟨vs', e', d'⟩ => ⟨vs', s34 _ _ e', d'.sm s34⟩
  · obtain ⟨s2, As, eD, nDA, hp, la⟩ := hP
    replace hp : Paired (fun A ds => ∃ vs, H2 A = some (.lst vs) ∧ DpAll K H2 vs ds) As (((as.take as.length).filter p).map f) := hp
    rw [List.take_length] at hp
    have := dpAll_of_pairs hp
    rw [List.map_map] at this
    exact q _ _ H2 (s1.trans fun b o e => s2 b o (ne_of_none e nD) e) (s1.free nD) eD this
theorem gv_andV {K : PySem.W.Frag} {σ : L2.St} {H : Hp} {ta tb : TE} {b c : Bool} (ha : Gv K ta σ H (.bool b)) (hb : b = true → Gv K tb σ H (.bool c)) : Gv K (tAndV ta tb) σ H (.bool (b && c)) := fun H1 s Q q => ha H1 s _ fun v H2 s2 d2 => by
  cases d2
  refine ⟨b, rfl, ?_⟩
  cases b with
  | true => rw [if_pos rfl]; exact hb rfl H2 (s.trans s2) _ fun v H3 s3 d3 => q v H3 (s2.trans s3) d3
  | false => rw [if_neg Bool.false_ne_true]; exact q _ _ s2 (.bl false)
theorem gv_orV {K : PySem.W.Frag} {σ : L2.St} {H : Hp} {ta tb : TE} {b c : Bool} (ha : Gv K ta σ H (.bool b)) (hb : b = false → Gv K tb σ H (.bool c)) : Gv K (tOrV ta tb) σ H (.bool (b || c)) := fun H1 s Q q => ha H1 s _ fun v H2 s2 d2 => by
  cases d2
  refine ⟨b, rfl, ?_⟩
  cases b with
  | true => rw [if_pos rfl]; exact q _ _ s2 (.bl true)
  | false => rw [if_neg Bool.false_ne_true]; exact hb rfl H2 (s.trans s2) _ fun v H3 s3 d3 => q v H3 (s2.trans s3) d3
theorem gv_notV {K : PySem.W.Frag} {σ : L2.St} {H : Hp} {ta : TE} {b : Bool} (ha : Gv K ta σ H (.bool b)) : Gv K (tNotV ta) σ H (.bool (!b)) := fun H1 s Q q => ha H1 s _ fun v H2 s2 d2 => by
  cases d2
  exact ⟨b, rfl, q _ _ s2 (.bl _)⟩
/-! ### names of buttons -/
/-- each of 0 .. n - 1 once -/
structure IsP (n : Nat) (nm : List Int) : Prop where
  len : nm.length = n
  nd : nm.Nodup
  rng : ∀ x ∈ nm, 0 ≤ x ∧ x < (n : Int)
theorem IsP.mem {n : Nat} {nm : List Int} (h : IsP n nm) {x : Int} (h0 : 0 ≤ x) (h1 : x < (n : Int)) : x ∈ nm := Classical.byContradiction fun hx => by
  have := nodup_few n (x :: nm) (List.nodup_cons.mpr ⟨hx, h.nd⟩) fun y hy => by
    rcases List.mem_cons.mp hy with rfl | hy
    · exact ⟨h0, h1⟩
    · exact h.rng y hy
  rw [List.length_cons, h.len] at this
  omega
theorem isP_intL (n : Nat) : IsP n (intL n) := ⟨intL_len n, (intL_up n).imp fun {x y} h => by omega, fun x hx => mem_intL.mp hx⟩
theorem isP_rev {n : Nat} {nm : List Int} (h : IsP n nm) : IsP n nm.reverse := ⟨by rw [List.length_reverse, h.len], (List.reverse_perm nm).nodup_iff.mpr h.nd, fun x hx => h.rng x (List.mem_reverse.mp hx)⟩
/-- what button b is called -/
def nmOf (nm : List Int) (x : Int) : Int := nm.getD x.toNat 0
theorem IsP.at {n : Nat} {nm : List Int} (h : IsP n nm) {x : Int} (h0 : 0 ≤ x) (h1 : x < (n : Int)) : nm[x.toNat]? = some (nmOf nm x) := by
  unfold nmOf
  rw [List.getD_eq_getElem?_getD, List.getElem?_eq_getElem (by rw [h.len]; omega)]; rfl
theorem IsP.rngOf {n : Nat} {nm : List Int} (h : IsP n nm) {x : Int} (h0 : 0 ≤ x) (h1 : x < (n : Int)) : 0 ≤ nmOf nm x ∧ nmOf nm x < (n : Int) := h.rng _ (List.mem_of_getElem? (h.at h0 h1))
theorem nd_get {l : List Int} (h : l.Nodup) {i j : Nat} {x : Int} (hi : l[i]? = some x) (hj : l[j]? = some x) : i = j := by
  obtain ⟨w1, z1⟩ := List.getElem?_eq_some_iff.mp hi
  obtain ⟨w2, z2⟩ := List.getElem?_eq_some_iff.mp hj
  have hp := List.pairwise_iff_getElem.mp h
  rcases Nat.lt_trichotomy i j with lt | e | lt
  · exact absurd (z1.trans z2.symm) (hp _ _ w1 w2 lt)
  · exact e
  · exact absurd (z2.trans z1.symm) (hp _ _ w2 w1 lt)
theorem IsP.inj {n : Nat} {nm : List Int} (h : IsP n nm) {x y : Int} (h0 : 0 ≤ x) (h1 : x < (n : Int)) (h2 : 0 ≤ y) (h3 : y < (n : Int)) (e : nmOf nm x = nmOf nm y) : x = y := by
  have a := h.at h0 h1
  have b := h.at h2 h3
  rw [← e] at b
  have := nd_get h.nd a b
  omega
/-- the button that is called x -/
theorem IsP.idx {n : Nat} {nm : List Int} (h : IsP n nm) {x : Int} (h0 : 0 ≤ x) (h1 : x < (n : Int)) : nm.idxOf x < n ∧ nmOf nm (nm.idxOf x : Nat) = x := by
  obtain ⟨g1, _⟩ := idx_at (h.mem h0 h1)
  have hl := (List.getElem?_eq_some_iff.mp g1).1
  rw [h.len] at hl
  refine ⟨hl, ?_⟩
  have := h.at (x := (nm.idxOf x : Nat)) (by omega) (by omega)
  rw [Int.toNat_natCast, g1] at this
  exact (Option.some.inj this).symm
theorem IsP.idx_of {n : Nat} {nm : List Int} (h : IsP n nm) {x : Int} (h0 : 0 ≤ x) (h1 : x < (n : Int)) : (nm.idxOf (nmOf nm x) : Int) = x := by
  have r := h.rngOf h0 h1
  obtain ⟨g1, g2⟩ := h.idx r.1 r.2
  exact h.inj (by omega) (by omega) h0 h1 g2
/-- the panel with other names -/
def renM (pan : List (List Int)) (nm : List Int) : List (List Int) := (List.range pan.length).map fun x : Nat => srt ((pan.getD (nm.idxOf (x : Int)) []).map (nmOf nm))
theorem renM_len (pan : List (List Int)) (nm : List Int) : (renM pan nm).length = pan.length := by unfold renM; rw [List.length_map, List.length_range]
/-- the same by looking at each button -/
def renD (pan : List (List Int)) (nm : List Int) : List (List Int) := (List.range pan.length).map fun x : Nat => (intL pan.length).filter fun o => decide ((nm.idxOf o : Int) ∈ pan.getD (nm.idxOf (x : Int)) [])
theorem ren_eq {pan : List (List Int)} {nm : List Int} (g : Good pan) (h : IsP pan.length nm) : renM pan nm = renD pan nm := by
  unfold renM renD
  refine List.map_congr_left fun x hx => ?_
  have hx' : x < pan.length := List.mem_range.mp hx
  obtain ⟨i1, i2⟩ := h.idx (x := (x : Int)) (by omega) (by omega)
  have hl : pan.getD (nm.idxOf (x : Int)) [] ∈ pan := by
    rw [List.getD_eq_getElem?_getD, List.getElem?_eq_getElem i1]; exact List.getElem_mem _
  have rg := g.rng _ hl
  have up := g.up _ hl
  have ndm : ((pan.getD (nm.idxOf (x : Int)) []).map (nmOf nm)).Nodup := by
    rw [List.nodup_iff_pairwise_ne, List.pairwise_map]
    refine List.Pairwise.imp_of_mem ?_ up
    intro a b ha hb hab e
    have := h.inj (rg a ha).1 (rg a ha).2 (rg b hb).1 (rg b hb).2 e
    omega
  refine asc_ext ?_ ((intL_up _).filter _) fun o => ?_
  · have nd2 : (srt ((pan.getD (nm.idxOf (x : Int)) []).map (nmOf nm))).Nodup := (srt_perm _).nodup_iff.mpr ndm
    have := (srt_up ((pan.getD (nm.idxOf (x : Int)) []).map (nmOf nm))).and (List.nodup_iff_pairwise_ne.mp nd2)
    exact this.imp fun ⟨h1, h2⟩ => by omega
  · rw [(srt_perm _).mem_iff, List.mem_map, List.mem_filter, mem_intL, decide_eq_true_eq]
    constructor
    · rintro ⟨y, hy, rfl⟩
      have ry := rg y hy
      exact ⟨h.rngOf ry.1 ry.2, by rw [h.idx_of ry.1 ry.2]; exact hy⟩
    · rintro ⟨⟨o0, o1⟩, ho⟩
      exact ⟨_, ho, (h.idx o0 o1).2⟩
theorem ren_self {pan : List (List Int)} (g : Good pan) : renM pan (intL pan.length) = pan := by
  have h := isP_intL pan.length
  have id : ∀ x : Int, 0 ≤ x → x < (pan.length : Int) → nmOf (intL pan.length) x = x := fun x h0 h1 => by
    have := h.at h0 h1
    unfold intL at this ⊢
    rw [List.getElem?_map, List.getElem?_range (by omega)] at this
    have e := Option.some.inj this
    unfold nmOf
    rw [List.getD_eq_getElem?_getD, List.getElem?_map, List.getElem?_range (by omega)]
    show ((x.toNat : Nat) : Int) = x
    omega
  refine List.ext_getElem? fun i => ?_
  unfold renM
  by_cases hi : i < pan.length
  · rw [List.getElem?_map, List.getElem?_range hi, List.getElem?_eq_getElem hi]
    have e := h.idx_of (x := (i : Int)) (by omega) (by omega)
    rw [id _ (by omega) (by omega)] at e
    have e' : (intL pan.length).idxOf (i : Int) = i := by omega
    show some (srt ((pan.getD ((intL pan.length).idxOf (i : Int)) []).map _)) = some pan[i]
    rw [e']
    have gl : pan.getD i [] = pan[i] := by rw [List.getD_eq_getElem?_getD, List.getElem?_eq_getElem hi]; rfl
    rw [gl]
    have rg := g.rng _ (List.getElem_mem hi)
    have em : pan[i].map (nmOf (intL pan.length)) = pan[i] := by
      conv => rhs; rw [← List.map_id pan[i]]
      exact List.map_congr_left fun x hx => id x (rg x hx).1 (rg x hx).2
    rw [em, srt_self (g.up _ (List.getElem_mem hi))]
  · rw [List.getElem?_eq_none (by rw [List.length_map, List.length_range]; omega), List.getElem?_eq_none (by omega)]
end Pr
/-! A search by presses, as plain functions: the things found in their order, each with its row. -/
namespace Pr
open PySem PySem.Spec PyProof.Rows L2
section
variable {κ : Type} [DecidableEq κ]
abbrev BL (κ : Type) := List (κ × List Int)
def addK (L : BL κ) (k : κ) (r : List Int) : BL κ := if k ∈ L.map (·.1) then L else L ++ [(k, r)]
/-- what the first m presses of one thing add -/
def procB (step : κ → Nat → κ) (L : BL κ) (k : κ) (r : List Int) (m : Nat) : BL κ := (List.range m).foldl (fun L b => addK L (step k b) (r ++ [(b : Int)])) L
theorem procB_succ (step : κ → Nat → κ) (L : BL κ) (k : κ) (r : List Int) (m : Nat) : procB step L k r (m + 1) = addK (procB step L k r m) (step k m) (r ++ [(m : Int)]) := by
  unfold procB; rw [List.range_succ, List.foldl_append]; rfl
def bfsN (step : κ → Nat → κ) (n : Nat) (s : κ) : Nat → BL κ
  | 0 => [(s, [])]
  | i + 1 => match (bfsN step n s i)[i]? with
    | none => bfsN step n s i
    | some x => procB step (bfsN step n s i) x.1 x.2 n
theorem addK_pre (L : BL κ) (k : κ) (r : List Int) : L <+: addK L k r := by
  unfold addK; split
  · exact List.prefix_refl _
  · exact List.prefix_append _ _
theorem procB_pre (step : κ → Nat → κ) (L : BL κ) (k : κ) (r : List Int) : ∀ m, L <+: procB step L k r m
  | 0 => List.prefix_refl _
  | m + 1 => by rw [procB_succ]; exact (procB_pre step L k r m).trans (addK_pre _ _ _)
variable {step : κ → Nat → κ} {n : Nat} {s : κ}
theorem bfs_step {i : Nat} {x : κ × List Int} (h : (bfsN step n s i)[i]? = some x) : bfsN step n s (i + 1) = procB step (bfsN step n s i) x.1 x.2 n := by
  simp only [bfsN, h]
theorem bfs_succ_pre (i : Nat) : bfsN step n s i <+: bfsN step n s (i + 1) := by
  show bfsN step n s i <+: match (bfsN step n s i)[i]? with | none => bfsN step n s i | some x => procB step (bfsN step n s i) x.1 x.2 n
  split
  · exact List.prefix_refl _
  · exact procB_pre _ _ _ _ _
theorem bfs_pre {i j : Nat} (h : i ≤ j) : bfsN step n s i <+: bfsN step n s j := by
  induction j with
  | zero => have : i = 0 := by omega
            subst this; exact List.prefix_refl _
  | succ j ih =>
    by_cases e : i = j + 1
    · subst e; exact List.prefix_refl _
    · exact (ih (by omega)).trans (bfs_succ_pre j)
theorem pre_get {α : Type} {l1 l2 : List α} (h : l1 <+: l2) {i : Nat} (hi : i < l1.length) : l2[i]? = l1[i]? := by
  obtain ⟨t, rfl⟩ := h
  rw [List.getElem?_append_left hi]
theorem addK_all {P : κ → Prop} {L : BL κ} {k : κ} {r : List Int} (h : ∀ x ∈ L, P x.1) (hk : P k) : ∀ x ∈ addK L k r, P x.1 := by
  unfold addK; split
  · exact h
  · intro x hx
    rcases List.mem_append.mp hx with hx | hx
    · exact h x hx
    · rw [List.mem_singleton.mp hx]; exact hk
theorem addK_nd {L : BL κ} {k : κ} {r : List Int} (h : (L.map (·.1)).Nodup) : ((addK L k r).map (·.1)).Nodup := by
  unfold addK; split
  · exact h
  · rename_i hk
    rw [List.map_append, List.nodup_append]
    exact ⟨h, by simp, fun a ha b hb => by rintro rfl; exact hk (by rw [List.mem_singleton.mp hb] at ha; exact ha)⟩
theorem procB_all {P : κ → Prop} {L : BL κ} {k : κ} {r : List Int} (h : ∀ x ∈ L, P x.1) : ∀ m, (∀ b, b < m → P (step k b)) → ∀ x ∈ procB step L k r m, P x.1
  | 0, _ => h
  | m + 1, hk => by rw [procB_succ]; exact addK_all (procB_all h m fun b hb => hk b (by omega)) (hk m (by omega))
theorem procB_nd {L : BL κ} {k : κ} {r : List Int} (h : (L.map (·.1)).Nodup) : ∀ m, ((procB step L k r m).map (·.1)).Nodup
  | 0 => h
  | m + 1 => by rw [procB_succ]; exact addK_nd (procB_nd h m)
theorem bfs_nd (i : Nat) : ((bfsN step n s i).map (·.1)).Nodup := by
  induction i with
  | zero => show ([s]).Nodup; simp
  | succ i ih =>
    show (List.map (fun x : κ × List Int => x.1) (match (bfsN step n s i)[i]? with | none => bfsN step n s i | some x => procB step (bfsN step n s i) x.1 x.2 n)).Nodup
    split
    · exact ih
    · exact procB_nd ih n
theorem bfs_all {P : κ → Prop} (h0 : P s) (hs : ∀ k b, P k → b < n → P (step k b)) (i : Nat) : ∀ x ∈ bfsN step n s i, P x.1 := by
  induction i with
  | zero => intro x hx; rw [List.mem_singleton.mp hx]; exact h0
  | succ i ih =>
    show ∀ x ∈ (match (bfsN step n s i)[i]? with | none => bfsN step n s i | some x => procB step (bfsN step n s i) x.1 x.2 n), P x.1
    split
    · exact ih
    · rename_i x hx
      exact procB_all ih n fun b hb => hs _ _ (ih _ (List.mem_of_getElem? hx)) hb
theorem bfs_stop {i : Nat} (h : (bfsN step n s i).length ≤ i) {j : Nat} (hj : i ≤ j) : bfsN step n s j = bfsN step n s i := by
  induction j with
  | zero => have : i = 0 := by omega
            subst this; rfl
  | succ j ih =>
    by_cases e : i = j + 1
    · subst e; rfl
    · have ih := ih (by omega)
      show (match (bfsN step n s j)[j]? with | none => bfsN step n s j | some x => procB step (bfsN step n s j) x.1 x.2 n) = _
      rw [ih, List.getElem?_eq_none (by omega)]
theorem bfs_len_pos (i : Nat) : 0 < (bfsN step n s i).length := by
  have := (bfs_pre (step := step) (n := n) (s := s) (Nat.zero_le i)).length_le
  exact this
/-- rows are short: the row of a thing is as long as its level -/
theorem procB_rows {L : BL κ} {k : κ} {r : List Int} {N : Nat} (h : ∀ x ∈ L, x.2.length ≤ N ∧ ∀ y ∈ x.2, 0 ≤ y ∧ y < (n : Int)) (hr : r.length + 1 ≤ N ∧ ∀ y ∈ r, 0 ≤ y ∧ y < (n : Int)) : ∀ m, m ≤ n → ∀ x ∈ procB step L k r m, x.2.length ≤ N ∧ ∀ y ∈ x.2, 0 ≤ y ∧ y < (n : Int)
  | 0, _ => h
  | m + 1, hm => by
    rw [procB_succ]
    unfold addK
    split
    · exact procB_rows h hr m (by omega)
    · intro x hx
      rcases List.mem_append.mp hx with hx | hx
      · exact procB_rows h hr m (by omega) x hx
      · rw [List.mem_singleton.mp hx]
        refine ⟨by rw [List.length_append]; exact hr.1, fun y hy => ?_⟩
        rcases List.mem_append.mp hy with hy | hy
        · exact hr.2 y hy
        · rw [List.mem_singleton.mp hy]; omega
theorem bfs_rows (i : Nat) : ∀ x ∈ bfsN step n s i, x.2.length ≤ i ∧ ∀ y ∈ x.2, 0 ≤ y ∧ y < (n : Int) := by
  induction i with
  | zero => intro x hx; rw [List.mem_singleton.mp hx]; exact ⟨Nat.le_refl _, fun y hy => by cases hy⟩
  | succ i ih =>
    have ih' : ∀ x ∈ bfsN step n s i, x.2.length ≤ i + 1 ∧ ∀ y ∈ x.2, 0 ≤ y ∧ y < (n : Int) := fun x hx => ⟨by have := (ih x hx).1; omega, (ih x hx).2⟩
    show ∀ x ∈ (match (bfsN step n s i)[i]? with | none => bfsN step n s i | some x => procB step (bfsN step n s i) x.1 x.2 n), _
    split
    · exact ih'
    · rename_i x hx
      have hx' := ih x (List.mem_of_getElem? hx)
      exact procB_rows ih' ⟨by omega, hx'.2⟩ n (Nat.le_refl _)
end
/-! ### how many -/
/-- the number whose digits to the base b these are -/
def enc (b : Nat) : Nat → (Nat → Nat) → Nat
  | 0, _ => 0
  | n + 1, d => d 0 + b * enc b n fun i => d (i + 1)
theorem enc_lt {b : Nat} : ∀ (n : Nat) (d : Nat → Nat), (∀ i, i < n → d i < b) → enc b n d < b ^ n
  | 0, _, _ => by simp [enc]
  | n + 1, d, h => by
    have h0 := h 0 (by omega)
    have h1 := enc_lt n (fun i => d (i + 1)) fun i hi => h (i + 1) (by omega)
    show d 0 + b * enc b n (fun i => d (i + 1)) < b ^ (n + 1)
    rw [Nat.pow_succ]
    have h2 : b * (enc b n (fun i => d (i + 1)) + 1) ≤ b * b ^ n := Nat.mul_le_mul_left _ h1
    rw [Nat.mul_add, Nat.mul_one] at h2
    rw [Nat.mul_comm (b ^ n) b]
    omega
theorem enc_inj {b : Nat} : ∀ (n : Nat) (d e : Nat → Nat), (∀ i, i < n → d i < b) → (∀ i, i < n → e i < b) → enc b n d = enc b n e → ∀ i, i < n → d i = e i
  | 0, _, _, _, _, _, i, hi => by omega
  | n + 1, d, e, hd, he, h, i, hi => by
    have h' : d 0 + b * enc b n (fun i => d (i + 1)) = e 0 + b * enc b n (fun i => e (i + 1)) := h
    have d0 := hd 0 (by omega)
    have e0 := he 0 (by omega)
    have hb : 0 < b := by omega
    have z : d 0 = e 0 := by
      have := congrArg (· % b) h'
      simp only [Nat.add_mul_mod_self_left] at this
      rwa [Nat.mod_eq_of_lt d0, Nat.mod_eq_of_lt e0] at this
    have z2 : enc b n (fun i => d (i + 1)) = enc b n (fun i => e (i + 1)) := by
      rw [z] at h'
      exact Nat.eq_of_mul_eq_mul_left hb (Nat.add_left_cancel h')
    cases i with
    | zero => exact z
    | succ i => exact enc_inj n _ _ (fun i hi => hd (i + 1) (by omega)) (fun i hi => he (i + 1) (by omega)) z2 i (by omega)
/-- things with different digits are few -/
theorem few_of {κ : Type} {b n : Nat} {P : κ → Prop} {dig : κ → Nat → Nat} (hd : ∀ k i, P k → i < n → dig k i < b) (inj : ∀ k k', P k → P k' → (∀ i, i < n → dig k i = dig k' i) → k = k') {ks : List κ} (nd : ks.Nodup) (h : ∀ k ∈ ks, P k) : ks.length ≤ b ^ n := by
  have := nodup_few (b ^ n) (ks.map fun k => ((enc b n (dig k) : Nat) : Int)) ?_ ?_
  · rwa [List.length_map] at this
  · rw [List.nodup_iff_pairwise_ne, List.pairwise_map]
    refine List.Pairwise.imp_of_mem ?_ (List.nodup_iff_pairwise_ne.mp nd)
    intro k k' hk hk' ne e
    refine ne (inj k k' (h k hk) (h k' hk') ?_)
    exact enc_inj n _ _ (fun i hi => hd k i (h k hk) hi) (fun i hi => hd k' i (h k' hk') hi) (by omega)
  · intro x hx
    obtain ⟨k, hk, rfl⟩ := List.mem_map.mp hx
    have := enc_lt n (dig k) fun i hi => hd k i (h k hk) hi
    exact ⟨by omega, by exact_mod_cast this⟩
/-- states of n buttons -/
theorem few_states {n : Nat} {ks : List (List Int)} (nd : ks.Nodup) (h : ∀ k ∈ ks, Asc n k) : ks.length ≤ 2 ^ n := by
  refine few_of (P := Asc n) (dig := fun k i => if (i : Int) ∈ k then 1 else 0) (fun k i _ _ => by split <;> omega) (fun k k' hk hk' hh => ?_) nd h
  refine asc_ext hk.up hk'.up fun x => ?_
  have key : ∀ {l l' : List Int}, Asc n l → (∀ i, i < n → (if (i : Int) ∈ l then 1 else 0 : Nat) = if (i : Int) ∈ l' then 1 else 0) → ∀ {x : Int}, x ∈ l → x ∈ l' := fun {l l'} hl hh {x} hx => by
    have r := hl.rng x hx
    have := hh x.toNat (by omega)
    rw [show ((x.toNat : Nat) : Int) = x by omega, if_pos hx] at this
    by_cases h : x ∈ l'
    · exact h
    · rw [if_neg h] at this; omega
  exact ⟨key hk hh, key hk' fun i hi => (hh i hi).symm⟩
end Pr
/-! sorted(list of tuples of ints): all are not empty, or the first one is empty, or there is at most one. -/
namespace Pr
open PySem PySem.Spec PyProof.Rows L2 PySem.W
theorem lexLt_lt : ∀ xs ys : List Int, HT.lexLt xs ys = decide (xs < ys)
  | [], [] => by simp [HT.lexLt]
  | [], y :: ys => by simp [HT.lexLt]
  | x :: xs, [] => by simp [HT.lexLt]
  | x :: xs, y :: ys => by
    rw [HT.lexLt_cons, lexLt_lt xs ys]
    by_cases e : x = y
    · subst e
      rw [if_pos rfl]
      exact decide_eq_decide.mpr (by simp [List.cons_lt_cons_iff])
    · rw [if_neg e]
      exact decide_eq_decide.mpr (by simp [List.cons_lt_cons_iff, e])
theorem lex_total (a b : List Int) : HT.lexLt a b = false ∨ HT.lexLt b a = false := by
  rw [lexLt_lt, lexLt_lt, decide_eq_false_iff_not, decide_eq_false_iff_not]
  by_cases h : a < b
  · exact .inr (List.lt_asymm h)
  · exact .inl h
theorem lex_trans {a b c : List Int} (h1 : HT.lexLt b a = false) (h2 : HT.lexLt c b = false) : HT.lexLt c a = false := by
  rw [lexLt_lt, decide_eq_false_iff_not] at *
  have h1 : a ≤ b := h1
  have h2 : b ≤ c := h2
  exact (List.le_trans h1 h2 : a ≤ c)
theorem lex_anti {a b : List Int} (h1 : HT.lexLt b a = false) (h2 : HT.lexLt a b = false) : a = b := by
  rw [lexLt_lt, decide_eq_false_iff_not] at *
  exact List.le_antisymm (show a ≤ b from h1) (show b ≤ a from h2)
/-- the ascending one of the same rows -/
def srtT (ks : List (List Int)) : List (List Int) := ks.mergeSort fun a b => !HT.lexLt b a
theorem srtT_perm (ks : List (List Int)) : (srtT ks).Perm ks := List.mergeSort_perm _ _
theorem srtT_up (ks : List (List Int)) : (srtT ks).Pairwise fun a b => HT.lexLt b a = false := by
  have := List.pairwise_mergeSort (le := fun a b : List Int => !HT.lexLt b a) (fun a b c h1 h2 => by simp at *; exact lex_trans h1 h2) (fun a b => by
    rcases lex_total a b with h | h <;> simp [h]) ks
  exact this.imp fun h => by simpa using h
theorem permT_eq : ∀ {l1 l2 : List (List Int)}, l1.Perm l2 → l1.Pairwise (fun a b => HT.lexLt b a = false) → l2.Pairwise (fun a b => HT.lexLt b a = false) → l1 = l2 := by
  intro l1
  induction l1 with
  | nil => intro l2 h _ _; exact (List.nil_perm.mp h).symm
  | cons x r ih =>
    intro l2 h h1 h2
    cases l2 with
    | nil => exact absurd h.symm (by simp)
    | cons y s =>
      rw [List.pairwise_cons] at h1 h2
      have hxy : x = y := by
        have hx : x ∈ y :: s := h.subset List.mem_cons_self
        have hy : y ∈ x :: r := h.symm.subset List.mem_cons_self
        rcases List.mem_cons.mp hx with e | e
        · exact e
        · rcases List.mem_cons.mp hy with e' | e'
          · exact e'.symm
          · exact lex_anti (h1.1 y e') (h2.1 x e)
      subst hxy
      rw [ih (List.Perm.cons_inv h) h1.2 h2.2]
theorem srtT_eq {l m : List (List Int)} (h : m.Perm l) (u : m.Pairwise fun a b => HT.lexLt b a = false) : srtT l = m := permT_eq ((srtT_perm l).trans h.symm) (srtT_up l) u
section
variable {X : Cx}
def rSortTup (K : PySem.W.Frag) : List V → Hp → VK → Prop := fun vs H Q => ∃ (a : Addr) (ts : List Addr) (k : Addr → List Int), vs = [V.ref a] ∧ SqL K H a (ts.map V.ref) ∧ (∀ t ∈ ts, SqT K H t ((k t).map V.int)) ∧ ((∀ t ∈ ts, k t ≠ []) ∨ (ts.head?.map k) = some []) ∧
  ∀ (ts' : List Addr) (p : Addr), ts'.Perm ts → ts'.Pairwise (fun p q => HT.lexLt (k q) (k p) = false) → H p = none → Q (.ref p) (upd H p (.lst (ts'.map V.ref)))
theorem each_map_ref {R : Value → Addr → Prop} : ∀ {out : List Value} {ts : List Addr}, EachIs (fun v t => v = Value.ref t) out ts → out = ts.map Value.ref
  | _, _, .nil => rfl
  | _, _, .cons e t => by rw [e, each_map_ref (R := R) t]; rfl
theorem cr_sortTup (hu : X.A.units + 64 < cLine) : CallR X (.builtin "sorted") (rSortTup X.K) := by
  intro pins s σ H vs us Q I r h
  obtain ⟨a, ts, k, rfl, hs, hx, h0, q⟩ := h
  rcases h0 with h0 | h0
  · obtain ⟨its, rv, hl, hz⟩ := I.list hs
    obtain ⟨u, rfl, ru⟩ := vals1 r
    obtain rfl : u = Value.ref a := ru
    have ei := nts_of rv
    have hlen : its.length = ts.length := by rw [← rv.length, List.length_map]
    have er : EachIs (fun v t => ∃ as, Reads s.heap v (.tuple ((k t).map PyData.int)) as) its ts := by
      rw [ei]
      have : ∀ (l : List Addr), (∀ t ∈ l, t ∈ ts) → EachIs (fun v t => ∃ as, Reads s.heap v (.tuple ((k t).map PyData.int)) as) (l.map Value.ref) l := fun l => by
        induction l with
        | nil => intro _; exact .nil
        | cons t l ih => intro hm; exact .cons (Dp.reads I _ _ _ (dp_ints (hx t (hm t List.mem_cons_self))) rfl) (ih fun x hx => hm x (List.mem_cons_of_mem _ hx))
      exact this ts fun _ h => h
    have e0 : EachIs (fun v t => v = Value.ref t) its ts := by
      rw [ei]
      have : ∀ (l : List Addr), EachIs (fun v t => v = Value.ref t) (l.map Value.ref) l := fun l => by
        induction l with
        | nil => exact .nil
        | cons t l ih => exact .cons rfl ih
      exact this ts
    refine sorted_data (enc := fun t => .tuple ((k t).map PyData.int)) hl.isList e0 er (fun d hd d' hd' => ?_) (.inl fun d hd => ?_) (by rw [List.length_map] at hz; exact hz) (fun b hb => ?_) fun out ol oe => ?_
    · obtain ⟨t, _, rfl⟩ := List.mem_map.mp hd
      obtain ⟨t', _, rfl⟩ := List.mem_map.mp hd'
      show alike (.tuple _) (.tuple _) = true
      simp only [alike]
      exact alike_ints _ _
    · obtain ⟨t, ht, rfl⟩ := List.mem_map.mp hd
      cases e : k t with
      | nil => exact absurd e (h0 t ht)
      | cons x r => exact ⟨.int x, r.map PyData.int, rfl⟩
    · show X.A.units + 2 + (PyData.tuple ((k b).map PyData.int)).depth < cLine
      simp only [PyData.depth, depth_ints]; omega
    · have eo := each_map_ref (R := fun _ _ => True) oe
      have le : dataLe false (fun t => PyData.tuple ((k t).map PyData.int)) = fun p q => !HT.lexLt (k q) (k p) := by
        funext p q
        show (!dataLt (.tuple ((k q).map .int)) (.tuple ((k p).map .int))) = _
        rw [dataLt_tuple]
        show (!rowLt ((k q).map .int) ((k p).map .int)) = _
        rw [dataLt_ints, lexLt_lt]
      have hp : (ts.mergeSort (dataLe false fun t => PyData.tuple ((k t).map PyData.int))).Perm ts := List.mergeSort_perm _ _
      have hs' : (ts.mergeSort (dataLe false fun t => PyData.tuple ((k t).map PyData.int))).Pairwise (fun p q => HT.lexLt (k q) (k p) = false) := by
        rw [le]
        have := List.pairwise_mergeSort (le := fun p q : Addr => !HT.lexLt (k q) (k p)) (fun a b c h1 h2 => by simp at *; exact lex_trans h1 h2) (fun a b => by rcases lex_total (k a) (k b) with h | h <;> simp [h]) ts
        exact this.imp fun h => by simpa using h
      have hl2 : ((ts.mergeSort (dataLe false fun t => PyData.tuple ((k t).map PyData.int))).map V.ref).length ≤ sizeLine := by
        rw [List.length_map, hp.length_eq]; rw [List.length_map] at hz; exact hz
      have rvo : Vals ((ts.mergeSort (dataLe false fun t => PyData.tuple ((k t).map PyData.int))).map V.ref) out := by
        rw [eo]; exact of_nts _
      obtain ⟨n, hn⟩ := sortedAll_at s.heap its out.toArray
      exact ⟨.ref (s.heap.objs.size + 1), upd H _ (.lst ((ts.mergeSort (dataLe false fun t => PyData.tuple ((k t).map PyData.int))).map V.ref)), I.laid (t' := s.toks) (fun b o e => sortedAll_old e) (Nat.le_succ _) ⟨hl2, out, n, rvo, hn⟩, rfl, q _ _ hp hs' (I.hok.fresh (Nat.le_succ _))⟩
  · exact cr_sortedTI hu pins s σ H [V.ref a] us Q I r ⟨a, ts, k, rfl, hs, hx, h0, q⟩
end
end Pr
/-! Dicts whose keys are tuples: a display of one pair; what a search holds. -/
namespace Pr
open PySem PySem.Spec PyProof.Rows L2
section
variable {X : Cx}
/-- {k: v}, k a tuple; the new dict stands empty while the pair is made -/
def tDispT (tk tv : TE) : TE := fun σ H Q => ∀ p, H p = none → tPairs [(tk, tv)] σ (upd H p (.dT [])) fun ps H2 => H2 p = some (.dT []) ∧ ∃ (y : V) (b : Addr) (ks : List Key), ps = [(V.ref b, y)] ∧ H2 b = some (.tup (ks.map kV)) ∧ Q (.ref p) (upd H2 p (.dT [(ks, y)]))
theorem pe_dispT {k v : Expr} {tk tv : TE} {pos : Pos} (hu : X.A.units + 1 < cLine) (hk : PE X k tk) (hv : PE X v tv) : PE X (.Dict [some k] [v] pos) (tDispT tk tv) := by
  refine ⟨fun pins s σ H Q I q => ?_⟩
  have hn := I.hok.fresh (Nat.le_refl s.heap.objs.size)
  have I1 := I.laid (a := s.heap.objs.size) (o := .dT []) (h' := s.heap.push { cls := .type "dict", data := .dict #[] }) (t' := s.toks) (fun _ _ q => Heap.get?_push_of_some _ q) (Nat.le_refl _) (dt_empty s.heap I.big)
  have e0 := zip_pairTrees [some k] [v] X.env pos rfl rfl
  rw [arm_eval_Dict, e0, dictDisplay_pairs _ (by simp [pairTrees]) (by simp [pairTrees])]
  refine wpAny_bind (wpAny_standAt (wpAny_bind (wpAny_subDictH (knd := tupleKind (mixKind X.prog X.w)) (show X.A.units < cLine by omega) (by simp [pairTrees]) ?_)))
  have hp : PPs X pos [some k] [v] [(tk, tv)] := pps_cons hk hv pps_nil
  refine thn (hp.run pins _ σ _ _ I1 (q _ hn)) fun ws s2 ⟨ps, H2, I2, rel, e, y, b, ks, ep, eb, q2⟩ => ?_
  subst ep
  cases rel with
  | @cons _ wv _ bs r1 r2 =>
    cases r2
    obtain ⟨w1, w2⟩ := wv
    obtain ⟨rb, ry⟩ := r1
    obtain rfl : w1 = Value.ref b := rb
    obtain ⟨z, hd, xs, rx, dd⟩ := dt_of I2.hok e
    cases rx
    refine ⟨[(ks, b, w2)], ⟨rfl, rfl, key_of I2.hok eb, trivial⟩, dd, fun h' tk' dd' hs => ?_⟩
    refine wpAny_pure ⟨.ref s.heap.objs.size, _, ?_, rfl, q2⟩
    obtain ⟨qo, es, epo, hq, h2, h3, h4, _, h5⟩ := dd'
    refine d_write I2 (by rw [e]; exact True.intro) hs ⟨qo, hq⟩ ⟨by show 1 ≤ sizeLine; decide, hd, _, .cons ⟨rfl, ?_, ry⟩ .nil, qo, es, epo, hq, h2, h3, h4, h5⟩
    rw [upd_ne (ne_of eb e (fun z => nomatch z))]
    exact eb
end
/-! ### what a search holds -/
def kInt (k : List Int) : List Key := k.map Sum.inl
theorem kInt_kV (k : List Int) : (kInt k).map kV = k.map V.int := by unfold kInt; rw [List.map_map]; rfl
theorem kInt_inj {a b : List Int} (h : kInt a = kInt b) : a = b := by
  have := congrArg (List.map kV) h
  rw [kInt_kV, kInt_kV] at this
  exact List.map_inj_right (fun x y h => V.int.inj h) |>.mp this
theorem val_zip {κ : Type} [DecidableEq κ] : ∀ {ks : List κ} {vs : List V} {i : Nat} {k : κ} {v : V}, ks.Nodup → ks[i]? = some k → vs[i]? = some v → valV (ks.zip vs) k = some v
  | [], _, _, _, _, _, h, _ => by simp at h
  | _ :: _, [], _, _, _, _, _, h => by simp at h
  | a :: ks, b :: vs, 0, k, v, nd, h1, h2 => by
    simp at h1 h2; subst h1 h2
    rw [List.zip_cons_cons]; exact valV_pos rfl
  | a :: ks, b :: vs, i + 1, k, v, nd, h1, h2 => by
    rw [List.nodup_cons] at nd
    have h1' : ks[i]? = some k := by simpa using h1
    rw [List.zip_cons_cons, valV_neg (fun e => nd.1 (by rw [show a = k from e]; exact List.mem_of_getElem? h1'))]
    exact val_zip nd.2 h1' (by simpa using h2)
theorem val_zip_none {κ : Type} [DecidableEq κ] : ∀ {ks : List κ} {vs : List V} {k : κ}, k ∉ ks → valV (ks.zip vs) k = none
  | [], _, _, _ => rfl
  | _ :: _, [], _, _ => by rw [List.zip_nil_right]; rfl
  | a :: ks, b :: vs, k, h => by
    rw [List.zip_cons_cons, valV_neg (fun e => h (by rw [show a = k from e]; exact List.mem_cons_self))]
    exact val_zip_none fun z => h (List.mem_cons_of_mem _ z)
/-- the dict of the things found, each with its row -/
def DictB (K : PySem.W.Frag) (H : Hp) (d : Addr) (L : BL (List Key)) : Prop := ∃ vs, H d = some (.dT ((L.map (·.1)).zip vs)) ∧ DpAll K H vs (L.map fun x => dInts x.2)
theorem DictB.same {K : PySem.W.Frag} {H H' : Hp} {d : Addr} {L : BL (List Key)} (h : DictB K H d L) (s : Same H H') : DictB K H' d L := let ⟨vs, e, dv⟩ := h; ⟨vs, s _ _ e, dv.sm s⟩
theorem DictB.get {K : PySem.W.Frag} {H : Hp} {d a : Addr} {L : BL (List Key)} {i : Nat} {x : List Key × List Int} (h : DictB K H d L) (nd : (L.map (·.1)).Nodup) (hx : L[i]? = some x) (ea : H a = some (.tup (x.1.map kV))) : ∃ v, DGet H d (.ref a) (some v) ∧ Dp K H v (dInts x.2) := by
  obtain ⟨vs, e, dv⟩ := h
  obtain ⟨v, hv, dx⟩ := dv.get i (dInts x.2) (by rw [List.getElem?_map, hx]; rfl)
  refine ⟨v, ?_, dx⟩
  have := DGet.t (k := x.1) e ea
  rwa [val_zip nd (by rw [List.getElem?_map, hx]; rfl) hv] at this
theorem DictB.none {K : PySem.W.Frag} {H : Hp} {d a : Addr} {L : BL (List Key)} {k : List Key} (h : DictB K H d L) (hk : k ∉ L.map (·.1)) (ea : H a = some (.tup (k.map kV))) : DGet H d (.ref a) none := by
  obtain ⟨vs, e, dv⟩ := h
  have := DGet.t (k := k) e ea
  rwa [val_zip_none hk] at this
theorem DictB.some {K : PySem.W.Frag} {H : Hp} {d a : Addr} {L : BL (List Key)} {k : List Key} (h : DictB K H d L) (nd : (L.map (·.1)).Nodup) (hk : k ∈ L.map (·.1)) (ea : H a = some (.tup (k.map kV))) : ∃ v, DGet H d (.ref a) (some v) := by
  obtain ⟨x, hx, rfl⟩ := List.mem_map.mp hk
  obtain ⟨i, hi⟩ := List.getElem?_of_mem hx
  obtain ⟨v, g, _⟩ := h.get nd hi ea
  exact ⟨v, g⟩
/-- the heap but for what stands at d and at l -/
def But2 (d l : Addr) (H H' : Hp) : Prop := ∀ b o, b ≠ d → b ≠ l → H b = some o → H' b = some o
theorem kp_dT {H : Hp} {d : Addr} {kvs : List (List Key × V)} {o : HO} (h : H d = some (.dT kvs)) : Kp H (upd H d o) :=
  ⟨fun b ys e => by rw [upd_ne (ne_of e h (by intro z; cases z))]; exact e, fun b q u e => by rw [upd_ne (ne_of e h (by intro z; cases z))]; exact e⟩
theorem lf_rows {L : BL (List Key)} : lfAll (L.map fun x => dInts x.2) = true := lfAll_of fun d hd => by
  obtain ⟨x, _, rfl⟩ := List.mem_map.mp hd
  exact lf_ints _
/-- a new thing is put into it -/
theorem DictB.put {K : PySem.W.Frag} {H : Hp} {d a : Addr} {L : BL (List Key)} {k : List Key} {r : List Int} {v : V} (h : DictB K H d L) (hk : k ∉ L.map (·.1)) (ea : H a = .some (.tup (k.map kV))) (dv : Dp K H v (dInts r)) (hl : L.length < 100000) :
    ∃ H', DPut H d (.ref a) v H' ∧ DictB K H' d (L ++ [(k, r)]) ∧ Kp H H' ∧ ∀ b o, b ≠ d → H b = .some o → H' b = .some o := by
  obtain ⟨vs, e, dvs⟩ := h
  have lv : vs.length = L.length := by rw [dvs.length, List.length_map]
  refine ⟨_, DPut.t (k := k) (v := v) e ea (by rw [List.length_zip, List.length_map, lv, Nat.min_self]; exact small5 (by omega)), ?_, kp_dT e, fun b o hb eb => by rw [upd_ne hb]; exact eb⟩
  rw [putK_new v (val_zip_none hk)]
  refine ⟨vs ++ [v], ?_, ?_⟩
  · rw [upd_same, List.map_append, List.zip_append (by rw [List.length_map, lv])]; rfl
  · refine dpAll_kp (kp_dT e) _ _ lf_rows ?_
    rw [List.map_append]
    exact DpAll.append dvs (.cons dv .nil)
end Pr
/-! New tuples that may be keys; searches over states; sorted rows as data. -/
namespace Pr
open PySem PySem.Spec PyProof.Rows L2
/-- a new tuple -/
def GvU (K : PySem.W.Frag) (t : TE) (σ : L2.St) (H : Hp) (ds : List PyData) : Prop := ∀ H1, Same H H1 → ∀ Q : VK, (∀ a vs H', Same H1 H' → H1 a = none → H' a = some (.tup vs) → DpAll K H' vs ds → Q (.ref a) H') → t σ H1 Q
section
variable {K : PySem.W.Frag} {σ : L2.St} {H : Hp} {t ta tb : TE} {d e : PyData} {ds es : List PyData}
theorem GvU.at (h : GvU K t σ H ds) {Q : VK} (q : ∀ a vs H', Same H H' → H a = none → H' a = some (.tup vs) → DpAll K H' vs ds → Q (.ref a) H') : t σ H Q := h H (Same.refl _) Q q
theorem GvU.gv (h : GvU K t σ H ds) : Gv K t σ H (.tuple ds) := fun H1 s Q q => h H1 s Q fun a vs H' s' _ e dv => q _ H' s' (.tup (.inl (.inl e)) dv)
theorem gu_tupL (h : Gv K t σ H (.list ds)) : GvU K (tCB (rTupG K) (tCons t tNil)) σ H ds := fun H1 s Q q => h H1 s _ fun v H2 s2 d2 => by
  obtain ⟨a, xs, rfl, hq, hr⟩ := d2.lstI
  exact ⟨a, xs, rfl, .inl ⟨hq, fun l nl => q _ _ _ (s2.trans (same_new nl)) (s2.free nl) upd_same (hr.sm (same_new nl))⟩⟩
theorem gu_tup {ta' : TA} (h : GvA K ta' σ H ds) (hl : ds.length ≤ sizeLine := by first | decide | exact Nat.le_of_lt (small5 (by simp only [List.length_cons, List.length_nil]; decide))) : GvU K (tTup ta') σ H ds := fun H1 s Q q => h H1 s _ fun vs H2 s2 d2 =>
  ⟨by rw [d2.length]; exact hl, fun p np => q _ _ _ (s2.trans (same_new np)) (s2.free np) upd_same (d2.sm (same_new np))⟩
theorem gu_tupRg {n : Nat} (h : Gv K t σ H (.int n)) (hn : n ≤ 100000) : GvU K (tTupRg (tRg1 t)) σ H ((intL n).map PyData.int) := fun H1 s Q q => h H1 s _ fun v H2 s2 d2 => by
  cases d2
  refine ⟨_, rfl, ⟨by omega, by omega, by omega, by omega, ?_⟩, fun p np => q _ _ _ (s2.trans (same_new np)) (s2.free np) upd_same ?_⟩
  · have := small5 hn; omega
  · rw [rgV_intL]; exact dpAll_ints _
end
/-! ### t * k, t of one item -/
section
variable {X : Cx}
def rRepA (K : PySem.W.Frag) : R2 := fun x y H Q => ∃ (l : Addr) (v : V) (k : Nat), x = .ref l ∧ y = .int (k : Int) ∧ SqT K H l [v] ∧ k ≤ 1000 ∧ ∀ p H', Same H H' → SqT K H' p (List.replicate k v) → Q (.ref p) H'
theorem rep_flatA {v : V} : ∀ k : Nat, (List.replicate k [v]).flatten = List.replicate k v
  | 0 => rfl
  | k + 1 => by rw [List.replicate_succ, List.flatten_cons, rep_flatA k]; rfl
theorem op_repA : OpR X (binaryOp .Mult) (rRepA X.K) := by
  intro pins s σ H x y v u Q I rx ry h
  obtain ⟨l, z, k, rfl, rfl, hT, hk, q⟩ := h
  match k, hk, q, ry with
  | 0, _, q, ry => exact op_rep1 pins s σ H _ _ v u Q I rx ry ⟨l, z, rfl, hT, .inr ⟨rfl, fun p np => q p _ (same_new np) (.inl (.inl upd_same))⟩⟩
  | 1, _, q, ry => exact op_rep1 pins s σ H _ _ v u Q I rx ry ⟨l, z, rfl, hT, .inl ⟨rfl, q l H (Same.refl _) hT⟩⟩
  | k + 2, hk, q, ry => exact op_repT pins s σ H _ _ v u Q I rx ry ⟨l, ((k + 2 : Nat) : Int), [z], rfl, rfl, hT, by simp, by omega, by omega, (by show 1 ≤ 1000; decide), fun p np => q p _ (same_new np) (.inl (.inl (by rw [upd_same, Int.toNat_natCast, rep_flatA])))⟩
theorem gv_repA {K : PySem.W.Frag} {σ : L2.St} {H : Hp} {ta tb : TE} {d : PyData} {k : Nat} (ha : Gv K ta σ H (.tuple [d])) (hb : Gv K tb σ H (.int (k : Int))) (hk : k ≤ 1000) : Gv K (tOp (rRepA K) ta tb) σ H (.tuple (List.replicate k d)) :=
  gv_op2 ha hb fun x y H1 Q s hx hy q => by
    cases hy
    obtain ⟨a, xs, rfl, hq, hr⟩ := hx.tupI
    obtain ⟨v, rfl, dv⟩ := dpAll1 hr
    refine ⟨a, v, k, rfl, rfl, hq, hk, fun p H' s' hp => q _ _ s' (.tup hp ?_)⟩
    have : ∀ m, DpAll K H' (List.replicate m v) (List.replicate m d) := fun m => by
      induction m with
      | zero => exact .nil
      | succ m ih => exact .cons (dv.sm s') ih
    exact this k
/-! ### sorted(list of rows) -/
def rSortTP (K : PySem.W.Frag) : List V → Hp → VK → Prop := fun vs H Q => ∃ (a : Addr) (ts : List (Addr × List Int)), vs = [V.ref a] ∧ SqL K H a (ts.map fun p => V.ref p.1) ∧ (∀ p ∈ ts, SqT K H p.1 (p.2.map V.int)) ∧ ((∀ p ∈ ts, p.2 ≠ []) ∨ (ts.head?.map (·.2)) = some []) ∧
  ∀ (ts' : List (Addr × List Int)) (p : Addr), ts'.Perm ts → ts'.Pairwise (fun p q => HT.lexLt q.2 p.2 = false) → H p = none → Q (.ref p) (upd H p (.lst (ts'.map fun p => V.ref p.1)))
theorem cr_sortTP (hu : X.A.units + 64 < cLine) : CallR X (.builtin "sorted") (rSortTP X.K) := by
  intro pins s σ H vs us Q I r h
  obtain ⟨a, ts, rfl, hs, hx, h0, q⟩ := h
  have uq : ∀ p ∈ ts, ∀ p' ∈ ts, p.1 = p'.1 → p.2 = p'.2 := fun p hp p' hp' e => by
    have h1 := hx p hp
    have h2 := hx p' hp'
    rw [← e] at h2
    have := I.tuple_inj h1 h2
    exact List.map_inj_right (fun x y h => V.int.inj h) |>.mp this
  have hk : ∀ p ∈ ts, ((ts.find? fun z => decide (z.1 = p.1)).map (·.2)).getD [] = p.2 := fun p hp => by
    cases e : ts.find? fun z => decide (z.1 = p.1) with
    | none => have := List.find?_eq_none.mp e p hp; simp at this
    | some z =>
      have h1 := List.mem_of_find?_eq_some e
      have h2 : z.1 = p.1 := by simpa using List.find?_some e
      exact uq z h1 p hp h2
  have et : (ts.map (·.1)).map (fun t => (t, ((ts.find? fun z => decide (z.1 = t)).map (·.2)).getD [])) = ts := by
    rw [List.map_map]
    conv => rhs; rw [← List.map_id ts]
    exact List.map_congr_left fun p hp => by simp only [Function.comp]; rw [hk p hp]; rfl
  refine cr_sortTup hu pins s σ H _ us Q I r ⟨a, ts.map (·.1), fun t => ((ts.find? fun z => decide (z.1 = t)).map (·.2)).getD [], rfl, by rw [List.map_map]; exact hs, fun t ht => ?_, ?_, fun ts' p hp hu' np => ?_⟩
  · obtain ⟨p, hp, rfl⟩ := List.mem_map.mp ht
    have := hk p hp
    dsimp only
    rw [this]; exact hx p hp
  · rcases h0 with h0 | h0
    · refine .inl fun t ht => ?_
      obtain ⟨p, hp, rfl⟩ := List.mem_map.mp ht
      have := hk p hp
      dsimp only
      rw [this]; exact h0 p hp
    · refine .inr ?_
      cases ts with
      | nil => simp at h0
      | cons p ts =>
        have := hk p List.mem_cons_self
        rw [List.map_cons, List.head?_cons, Option.map_some, this]
        simpa using h0
  · have := q (ts'.map fun t => (t, ((ts.find? fun z => decide (z.1 = t)).map (·.2)).getD [])) p (by have := hp.map (fun t => (t, ((ts.find? fun z => decide (z.1 = t)).map (·.2)).getD [])); rwa [et] at this) (by rw [List.pairwise_map]; exact hu') np
    rw [List.map_map] at this
    exact this
end
theorem pairs_of {K : PySem.W.Frag} {H : Hp} : ∀ {ks : List (List Int)} {vs : List V}, DpAll K H vs (ks.map dInts) → ∃ ts : List (Addr × List Int), vs = ts.map (fun p => V.ref p.1) ∧ ks = ts.map (·.2) ∧ ∀ p ∈ ts, SqT K H p.1 (p.2.map V.int)
  | [], _, h => by cases h; exact ⟨[], rfl, rfl, fun _ h => by cases h⟩
  | k :: ks, _, h => by
    rw [List.map_cons] at h
    cases h with
    | cons x y =>
      obtain ⟨a, rfl, hq⟩ := x.intsI
      obtain ⟨ts, rfl, rfl, hh⟩ := pairs_of y
      refine ⟨(a, k) :: ts, rfl, rfl, fun p hp => ?_⟩
      rcases List.mem_cons.mp hp with rfl | hp
      · exact hq
      · exact hh p hp
theorem gn_sortT {K : PySem.W.Frag} {σ : L2.St} {H : Hp} {t : TE} {ks : List (List Int)} (h : Gv K t σ H (.list (ks.map dInts))) (h0 : (∀ k ∈ ks, k ≠ []) ∨ ks.head? = some []) : GvN K (tCB (rSortTP K) (tCons t tNil)) σ H ((srtT ks).map dInts) := fun H1 s Q q => h H1 s _ fun v H2 s2 d2 => by
  obtain ⟨a, xs, rfl, hq, hr⟩ := d2.lstI
  obtain ⟨ts, rfl, rfl, hh⟩ := pairs_of hr
  refine ⟨a, ts, rfl, hq, hh, ?_, fun ts' p hp hu np => ?_⟩
  · rcases h0 with h0 | h0
    · exact .inl fun p hp => h0 _ (List.mem_map.mpr ⟨p, hp, rfl⟩)
    · exact .inr (by rw [← List.head?_map]; exact h0)
  · have e : srtT (ts.map (·.2)) = ts'.map (·.2) := srtT_eq (hp.map _) (by rw [List.pairwise_map]; exact hu)
    refine q _ _ _ (s2.trans (same_new np)) (s2.free np) upd_same ?_
    rw [e]
    have : ∀ (l : List (Addr × List Int)), (∀ p ∈ l, p ∈ ts) → DpAll K H2 (l.map fun p => V.ref p.1) ((l.map (·.2)).map dInts) := fun l => by
      induction l with
      | nil => intro _; exact .nil
      | cons z l ih => intro hm; exact .cons (dp_ints (hh z (hm z List.mem_cons_self))) (ih fun x hx => hm x (List.mem_cons_of_mem _ hx))
    exact (this ts' fun p hp' => hp.subset hp').sm (same_new np)
/-! ### states as things -/
def unK (k : List Key) : List Int := k.map fun x => match x with | .inl i => i | .inr _ => 0
theorem unK_kInt (l : List Int) : unK (kInt l) = l := by unfold unK kInt; rw [List.map_map]; exact List.map_id l
def stepP (pan : List (List Int)) (k : List Key) (b : Nat) : List Key := kInt (pressM pan (unK k) (b : Int))
def PKs (n : Nat) (k : List Key) : Prop := ∃ st, k = kInt st ∧ Asc n st
theorem pks_step {pan : List (List Int)} {k : List Key} {b : Nat} (h : PKs pan.length k) : PKs pan.length (stepP pan k b) := ⟨_, rfl, pressM_asc _ _ _⟩
theorem bfs_few {pan : List (List Int)} (few : pan.length ≤ 10) {k : List Key} (h : PKs pan.length k) (i : Nat) : (bfsN (stepP pan) pan.length k i).length ≤ 1024 := by
  have nd := bfs_nd (step := stepP pan) (n := pan.length) (s := k) i
  have hp := bfs_all (P := PKs pan.length) (step := stepP pan) (n := pan.length) h (fun k b hk _ => pks_step hk) i
  have := few_states (n := pan.length) (ks := (bfsN (stepP pan) pan.length k i).map fun x => unK x.1) ?_ ?_
  · rw [List.length_map] at this
    exact Nat.le_trans this (Nat.pow_le_pow_right (by decide) few)
  · rw [List.nodup_iff_pairwise_ne, List.pairwise_map]
    rw [List.nodup_iff_pairwise_ne, List.pairwise_map] at nd
    refine List.Pairwise.imp_of_mem ?_ nd
    intro x y hx hy ne e
    obtain ⟨a, ea, _⟩ := hp x hx
    obtain ⟨b, eb, _⟩ := hp y hy
    rw [ea, eb, unK_kInt, unK_kInt] at e
    exact ne (by rw [ea, eb, e])
  · intro z hz
    obtain ⟨x, hx, rfl⟩ := List.mem_map.mp hz
    obtain ⟨a, ea, ha⟩ := hp x hx
    rw [ea, unK_kInt]; exact ha
/-- the states that are reached, in the order in which they are found -/
def foundM (pan : List (List Int)) (st : List Int) : BL (List Key) := bfsN (stepP pan) pan.length (kInt st) 1024
def reachM (pan : List (List Int)) (st : List Int) : List (List Int) := (foundM pan st).map fun x => unK x.1
theorem reach_asc {pan : List (List Int)} {st : List Int} (h : Asc pan.length st) : ∀ k ∈ reachM pan st, Asc pan.length k := fun k hk => by
  obtain ⟨x, hx, rfl⟩ := List.mem_map.mp hk
  obtain ⟨a, ea, ha⟩ := bfs_all (P := PKs pan.length) (step := stepP pan) (n := pan.length) ⟨st, rfl, h⟩ (fun k b hk _ => pks_step hk) 1024 x hx
  rw [ea, unK_kInt]; exact ha
theorem reach_len {pan : List (List Int)} (few : pan.length ≤ 10) {st : List Int} (h : Asc pan.length st) : (reachM pan st).length ≤ 1024 := by
  unfold reachM; rw [List.length_map]; exact bfs_few few ⟨st, rfl, h⟩ 1024
theorem found_key {pan : List (List Int)} {st : List Int} (h : Asc pan.length st) : ∀ x ∈ foundM pan st, kInt (unK x.1) = x.1 := fun x hx => by
  obtain ⟨a, ea, ha⟩ := bfs_all (P := PKs pan.length) (step := stepP pan) (n := pan.length) ⟨st, rfl, h⟩ (fun k b hk _ => pks_step hk) 1024 x hx
  rw [ea, unK_kInt]
theorem reach_sortable {pan : List (List Int)} {st : List Int} (h : Asc pan.length st) : (∀ k ∈ reachM pan st, k ≠ []) ∨ (reachM pan st).head? = some [] := by
  have pre := bfs_pre (step := stepP pan) (n := pan.length) (s := kInt st) (Nat.zero_le 1024)
  have h0 : (reachM pan st).head? = some st := by
    obtain ⟨t, ht⟩ := pre
    unfold reachM foundM
    rw [← ht]
    show some (unK (kInt st)) = some st
    rw [unK_kInt]
  by_cases e : st = []
  · right; rw [h0, e]
  · left
    intro k hk
    obtain ⟨x, hx, rfl⟩ := List.mem_map.mp hk
    have := bfs_all (P := fun k => unK k ≠ []) (step := stepP pan) (n := pan.length) (s := kInt st) (by rw [unK_kInt]; exact e) (fun k b _ hb => by
      show unK (kInt (pressM pan (unK k) (b : Int))) ≠ []
      rw [unK_kInt]
      intro z
      have : (b : Int) ∈ pressM pan (unK k) (b : Int) := mem_pressM.mpr ⟨⟨by omega, by omega⟩, .inl rfl⟩
      rw [z] at this; cases this) 1024 x hx
    exact this
end Pr
/-! Dicts of states as answers; their keys, sorted. -/
namespace Pr
open PySem PySem.Spec PyProof.Rows L2
def rListT (K : PySem.W.Frag) : List V → Hp → VK → Prop := fun xs H Q => ∃ d kvs, xs = [V.ref d] ∧ Rd H d (.dT kvs) ∧ ∀ p bs, H p = none → IsKeys H kvs bs → Q (.ref p) (upd H p (.lst (bs.map V.ref)))
theorem cr_listT {X : Cx} (hc : X.calm = true) : CallR X (.type "list") (rListT X.K) := call_list_dT hc
/-- a dict of rows -/
def GvDB (K : PySem.W.Frag) (t : TE) (σ : L2.St) (H : Hp) (L : BL (List Key)) : Prop := ∀ H1, Same H H1 → ∀ Q : VK, (∀ d H', Same H1 H' → DictB K H' d L → Q (.ref d) H') → t σ H1 Q
theorem keys_dp {K : PySem.W.Frag} {H : Hp} : ∀ {L : BL (List Key)} {vs : List V} {bs : List Addr}, vs.length = L.length → (∀ x ∈ L, kInt (unK x.1) = x.1) → IsKeys H ((L.map (·.1)).zip vs) bs → DpAll K H (bs.map V.ref) (L.map fun x => dInts (unK x.1))
  | [], [], _, _, _, h => by cases h; exact .nil
  | x :: L, v :: vs, _, hl, hk, h => by
    unfold IsKeys at h
    rw [List.map_cons, List.zip_cons_cons] at h
    cases h with
    | cons e t =>
      refine .cons (dp_ints (.inl (.inl ?_))) (keys_dp (by simpa using hl) (fun y hy => hk y (List.mem_cons_of_mem _ hy)) t)
      dsimp only at e
      rw [e, ← kInt_kV, hk x List.mem_cons_self]
theorem gv_listT {K : PySem.W.Frag} {σ : L2.St} {H : Hp} {t : TE} {L : BL (List Key)} (h : GvDB K t σ H L) (hk : ∀ x ∈ L, kInt (unK x.1) = x.1) : Gv K (tCB (rListT K) (tCons t tNil)) σ H (.list (L.map fun x => dInts (unK x.1))) := fun H1 s Q q => h H1 s _ fun d H2 s2 hd => by
  obtain ⟨vs, e, dv⟩ := hd
  refine ⟨d, _, rfl, .inl e, fun p bs np hb => q _ _ (s2.trans (same_new np)) (.lst (.inl (.inl upd_same)) ((keys_dp ?_ hk hb).sm (same_new np)))⟩
  rw [dv.length, List.length_map]
/-- the states that are reached, sorted, as data -/
def dReach (pan : List (List Int)) (st : List Int) : PyData := .tuple ((srtT (reachM pan st)).map dInts)
theorem gv_reach {K : PySem.W.Frag} {σ : L2.St} {H : Hp} {t : TE} {pan : List (List Int)} {st : List Int} (h : GvDB K t σ H (foundM pan st)) (hst : Asc pan.length st) : Gv K (tCB (rTupG K) (tCons (tCB (rSortTP K) (tCons (tCB (rListT K) (tCons t tNil)) tNil)) tNil)) σ H (dReach pan st) := by
  refine gv_tupL (gn_sortT ((gv_listT h (found_key hst)).to ?_) (reach_sortable hst)).gv
  unfold reachM; rw [List.map_map]; rfl
theorem srt_reach_asc {pan : List (List Int)} {st : List Int} (hst : Asc pan.length st) : ∀ k ∈ srtT (reachM pan st), Asc pan.length k := fun k hk => reach_asc hst k ((srtT_perm _).subset hk)
theorem shw_reach {pan : List (List Int)} {st : List Int} (few : pan.length ≤ 10) (hst : Asc pan.length st) : Shw 60 sizeLine (dReach pan st) := by
  refine (Shw.tuple (dep := 1) (n := 33) (m := 1024) (ds := (srtT (reachM pan st)).map dInts) (fun d hd => ?_) ?_).mono (by decide) (by decide)
  · obtain ⟨k, hk, rfl⟩ := List.mem_map.mp hd
    have ha := srt_reach_asc hst k hk
    have := ha.len
    exact shw_ints (m := 10) (by omega) fun x hx => by have := ha.rng x hx; omega
  · rw [List.length_map, (srtT_perm _).length_eq]; exact reach_len few hst
theorem ok_tupT {ds : List PyData} (h : ∀ d ∈ ds, PyData.strOk d.shown = true) : PyData.strOk (PyData.tuple ds).shown = true := by
  simp only [PyData.shown]
  unfold tupleText
  refine ok_app (ok_app (ok_of "(") (ok_join (ok_of ", ") fun t ht => ?_)) ?_
  · rw [shownAll_map] at ht
    obtain ⟨d, hd, rfl⟩ := List.mem_map.mp ht
    exact h d hd
  · split
    · exact ok_of ",)"
    · exact ok_of ")"
theorem ok_reach {pan : List (List Int)} {st : List Int} : PyData.strOk (dReach pan st).shown = true := ok_tupT fun d hd => by
  obtain ⟨k, _, rfl⟩ := List.mem_map.mp hd
  exact ok_ints k
theorem shaped_two {x : Str} (h : PyData.strOk x = true) : SeqAt.shaped (.list [.str x, .str x]) = true := shp_of (lay_strs h h) (by simp [PyData.depth, PyData.depthAll])
theorem two_same {x : Str} (h : PyData.strOk x = true) : PyData.eqv (.list [.str x, .str x]) (.list [.str x, .str x]) = true := SeqAt.eqv_refl _ (lay_strs h h)
/-- [repr(..) for _ in range(2)] != [due, due] is false -/
theorem gvt_twice {K : PySem.W.Frag} {σ : L2.St} {H : Hp} {te tb : TE} {i : Nat} {x : Str} (h : ∀ v H', Same H H' → Gv K te ((σ.set i none).set i (some v)) H' (.str x)) (hb : Gv K tb σ H (.list [.str x, .str x])) (hx : PyData.strOk x = true) :
    GvT (tTest (tOp (rNeD K) (tLc (iRng1 (tCons (tC (.int 2)) tNil)) (gName i) tYes te [i]) tb)) σ H false := by
  refine (gvt_test (gv_neD (d := .list [.str x, .str x]) ((gv_lc (i := i) (p := fun _ => true) (f := fun _ => PyData.str x) (gvi_range (n := 2) gv_int (by decide)) (fun z vz Hz hz sz dz => ⟨gvt_yes, fun _ => h vz Hz sz⟩) (fun _ _ => rfl) (by decide)).to rfl) hb (shaped_two hx) (shaped_two hx))).to ?_
  rw [two_same hx]; rfl
theorem dPan_pad (pan : List (List Int)) (k : Nat) : PyData.tuple (pan.map dInts ++ List.replicate k (.tuple [])) = dPan (pan ++ List.replicate k []) := by
  unfold dPan; rw [List.map_append, List.map_replicate]; rfl
end Pr
/-! get of a dict of rows; repr of None or rows; bools compared. -/
namespace L2
theorem Room.u1 {k : Nat} {A : PySem.Around} (r : Room k A) : A.units + 1 < PySem.cLine := Nat.lt_of_le_of_lt (Nat.add_le_add_left (show 1 ≤ 64 by decide) _) r.units
end L2
namespace Pr
open PySem PySem.Spec PyProof.Rows L2
def rReprN (K : PySem.W.Frag) : List V → Hp → VK → Prop := fun xs H Q => rRepr K xs H Q ∨ (xs = [.non] ∧ Q (.str (PyData.shown .none)) H)
theorem shq_none : Shq 60 sizeLine .none := ⟨by simp only [PyData.showable], by simp [PyData.depth], by simp only [PyData.shown]; decide⟩
theorem cr_reprN {X : Cx} {k : Nat} (gd : X.A.guards = some []) (hr : Room k X.A) : CallR X (.builtin "repr") (rReprN X.K) := by
  intro pins s σ H xs us Q I rv h
  rcases h with h | ⟨rfl, q⟩
  · exact call_repr gd hr pins s σ H xs us Q I rv h
  · exact call_reprQ gd hr pins s σ H _ us Q I rv ⟨fun _ => False, .non, .none, rfl, .non, shq_none, q⟩
section
variable {K : PySem.W.Frag} {σ : L2.St} {H : Hp} {t ta tb : TE} {d e : PyData}
/-- what repr takes -/
def RepOk (d : PyData) : Prop := d = .none ∨ (Shw 60 sizeLine d ∧ ∃ ds, d = .tuple ds ∨ d = .list ds)
theorem gv_reprN (h : Gv K t σ H d) (hd : RepOk d) : Gv K (tCB (rReprN K) (tCons t tNil)) σ H (.str d.shown) := by
  rcases hd with rfl | ⟨hs, hr⟩
  · exact gv_cb (gva_cons h gva_nil) fun vs H1 Q s hd' q => by
      obtain ⟨v, rfl, hv⟩ := dpAll1 hd'
      cases hv
      exact .inr ⟨rfl, q _ _ (Same.refl _) (.str _)⟩
  · exact gv_cb (gva_cons h gva_nil) fun vs H1 Q s hd' q => by
      obtain ⟨v, rfl, hv⟩ := dpAll1 hd'
      obtain ⟨a, rfl⟩ : ∃ a, v = V.ref a := by
        obtain ⟨ds, rfl | rfl⟩ := hr
        · obtain ⟨a, _, e, _⟩ := hv.tupI; exact ⟨a, e⟩
        · obtain ⟨a, _, e, _⟩ := hv.lstI; exact ⟨a, e⟩
      exact .inl ⟨a, d, rfl, hv, hs.sh, hs.nd, hs.dp, hs.ln, q _ _ (Same.refl _) (.str _)⟩
theorem gv_neB {i j : Bool} (ha : Gv K ta σ H (.bool i)) (hb : Gv K tb σ H (.bool j)) : Gv K (tOp rNe ta tb) σ H (.bool (!decide (i = j))) :=
  gv_op2 ha hb fun x y H1 Q s hx hy q => by
    cases hx; cases hy
    refine ⟨rfl, q _ _ (Same.refl _) ?_⟩
    have : decide (V.bl i = V.bl j) = decide (i = j) := by cases i <;> cases j <;> rfl
    rw [this]; exact .bl _
/-- what the dict says of a thing -/
def wayOf (L : BL (List Key)) (k : List Key) : PyData := match L.find? fun x => decide (x.1 = k) with
  | some x => dInts x.2
  | none => .none
theorem way_get {L : BL (List Key)} {dd g : Addr} {k : List Key} (h : DictB K H dd L) (nd : (L.map (·.1)).Nodup) (eg : H g = some (.tup (k.map kV))) : ∃ o, DGet H dd (.ref g) o ∧ Dp K H (o.getD .non) (wayOf L k) := by
  unfold wayOf
  cases e : L.find? fun x => decide (x.1 = k) with
  | none =>
    refine ⟨none, h.none (fun hk => ?_) eg, .non⟩
    obtain ⟨x, hx, rfl⟩ := List.mem_map.mp hk
    have := List.find?_eq_none.mp e x hx
    simp at this
  | some x =>
    have hx := List.mem_of_find?_eq_some e
    have e2 : x.1 = k := by simpa using List.find?_some e
    subst e2
    obtain ⟨i, hi⟩ := List.getElem?_of_mem hx
    obtain ⟨v, g1, g2⟩ := h.get nd hi eg
    exact ⟨some v, g1, g2⟩
theorem gd_var {i : Nat} {dd : Addr} {L : BL (List Key)} (hi : σ[i]? = some (some (.ref dd))) (hd : DictB K H dd L) : GvDB K (tVar i) σ H L := fun H1 s Q q => ⟨.ref dd, hi, q dd H1 (Same.refl _) (hd.same s)⟩
theorem dictB_is {dd : Addr} {L : BL (List Key)} (h : DictB K H dd L) : IsD H dd := let ⟨vs, e, _⟩ := h; .inr ⟨_, .inl e⟩
theorem gv_get1 {L : BL (List Key)} {j : Nat} {g : Addr} {gl : List Int} (h : GvDB K t σ H L) (nd : (L.map (·.1)).Nodup) (hj : σ[j]? = some (some (.ref g))) (eg : H g = some (.tup (gl.map V.int))) : Gv K (tDGet1 t (tVar j)) σ H (wayOf L (kInt gl)) := fun H1 s Q q => h H1 s _ fun dd H2 s2 hd => by
  obtain ⟨o, h1, h2⟩ := way_get hd nd (k := kInt gl) (by rw [kInt_kV]; exact s2 _ _ (s _ _ eg))
  exact ⟨dd, rfl, dictB_is hd, .ref g, hj, o, h1, q _ H2 s2 h2⟩
theorem gv_get2 {L : BL (List Key)} {j : Nat} {g : Addr} {gl : List Int} (h : GvDB K t σ H L) (nd : (L.map (·.1)).Nodup) (hj : σ[j]? = some (some (.ref g))) (eg : H g = some (.tup (gl.map V.int))) : Gv K (tDGet2 t (tVar j) (tC .non)) σ H (wayOf L (kInt gl)) := fun H1 s Q q => h H1 s _ fun dd H2 s2 hd => by
  obtain ⟨o, h1, h2⟩ := way_get hd nd (k := kInt gl) (by rw [kInt_kV]; exact s2 _ _ (s _ _ eg))
  exact ⟨dd, rfl, dictB_is hd, .ref g, hj, o, h1, q _ H2 s2 h2⟩
end
theorem found_nd (pan : List (List Int)) (st : List Int) : ((foundM pan st).map (·.1)).Nodup := bfs_nd 1024
theorem wayOf_lf (L : BL (List Key)) (k : List Key) : lf (wayOf L k) = true := by
  unfold wayOf
  split
  · exact lf_ints _
  · simp only [lf]
theorem way_shw {pan : List (List Int)} (few : pan.length ≤ 10) (st : List Int) (k : List Key) : wayOf (foundM pan st) k = .none ∨ ∃ r : List Int, wayOf (foundM pan st) k = dInts r ∧ r.length ≤ 1024 ∧ ∀ x ∈ r, 0 ≤ x ∧ x < 10 := by
  unfold wayOf
  cases e : (foundM pan st).find? fun x => decide (x.1 = k) with
  | none => exact .inl rfl
  | some x =>
    have hx := List.mem_of_find?_eq_some e
    have := bfs_rows (step := stepP pan) (n := pan.length) (s := kInt st) 1024 x hx
    exact .inr ⟨x.2, rfl, by have := this.1; omega, fun y hy => by have := this.2 y hy; omega⟩
theorem shw_none : Shw 1 4 .none := ⟨by simp only [PyData.showable], by simp only [PyData.hasDict], by simp [PyData.depth], by simp only [PyData.shown]; decide⟩
theorem way_shw1 {pan : List (List Int)} (few : pan.length ≤ 10) (st : List Int) (k : List Key) : Shw 1 3075 (wayOf (foundM pan st) k) := by
  rcases way_shw few st k with h | ⟨r, h, h1, h2⟩
  · rw [h]; exact shw_none.mono (by decide) (by decide)
  · rw [h]; exact shw_ints (m := 1024) h1 h2
theorem way_rep {pan : List (List Int)} (few : pan.length ≤ 10) (st : List Int) (k : List Key) : RepOk (wayOf (foundM pan st) k) := by
  rcases way_shw few st k with h | ⟨r, h, h1, h2⟩
  · exact .inl h
  · rw [h]; exact .inr ⟨(shw_ints (m := 1024) h1 h2).mono (by decide) (by decide), _, .inl rfl⟩
theorem way_rep2 {pan : List (List Int)} (few : pan.length ≤ 10) (st : List Int) (k : List Key) : RepOk (.list [wayOf (foundM pan st) k, wayOf (foundM pan st) k]) := by
  refine .inr ⟨(Shw.list (dep := 1) (n := 3075) (m := 2) (fun d hd => ?_) (Nat.le_refl _)).mono (by decide) (by decide), _, .inr rfl⟩
  have : d = wayOf (foundM pan st) k := by simpa using hd
  rw [this]; exact way_shw1 few st k
end Pr
/-! Links within a state, ways along them, held buttons. -/
namespace Pr
open PySem PySem.Spec PyProof.Rows L2
def Rel (pan : List (List Int)) (st : List Int) (x y : Int) : Prop := x ∈ st ∧ y ∈ st ∧ y ∈ pan.getD x.toNat []
def Pth (pan : List (List Int)) (st : List Int) : Nat → Int → Int → Prop
  | 0, x, y => x = y
  | m + 1, x, y => ∃ z, Rel pan st x z ∧ Pth pan st m z y
section
variable {pan : List (List Int)} {st : List Int}
theorem Pth.join : ∀ {a b : Nat} {x y z : Int}, Pth pan st a x y → Pth pan st b y z → Pth pan st (a + b) x z
  | 0, b, x, y, z, h1, h2 => by rw [Nat.zero_add]; rw [show x = y from h1]; exact h2
  | a + 1, b, x, y, z, ⟨u, r, h1⟩, h2 => by
    rw [show a + 1 + b = (a + b) + 1 by omega]
    exact ⟨u, r, Pth.join h1 h2⟩
theorem Pth.split : ∀ {a b : Nat} {x z : Int}, Pth pan st (a + b) x z → ∃ y, Pth pan st a x y ∧ Pth pan st b y z
  | 0, b, x, z, h => ⟨x, rfl, by rw [Nat.zero_add] at h; exact h⟩
  | a + 1, b, x, z, h => by
    rw [show a + 1 + b = (a + b) + 1 by omega] at h
    obtain ⟨u, r, h⟩ := h
    obtain ⟨y, h1, h2⟩ := Pth.split h
    exact ⟨y, ⟨u, r, h1⟩, h2⟩
theorem Pth.one {x y : Int} (r : Rel pan st x y) : Pth pan st 1 x y := ⟨y, r, rfl⟩
theorem Pth.ends : ∀ {m : Nat} {x y : Int}, Pth pan st (m + 1) x y → x ∈ st ∧ y ∈ st
  | 0, x, y, ⟨z, r, h⟩ => ⟨r.1, by rw [← show z = y from h]; exact r.2.1⟩
  | m + 1, x, y, ⟨z, r, h⟩ => ⟨r.1, (Pth.ends h).2⟩
end
def Closed (pan : List (List Int)) (C : List Int) : Prop := ∀ b ∈ C, ∃ c ∈ pan.getD b.toNat [], c ∈ C
structure IsHeld (pan : List (List Int)) (st hs : List Int) : Prop where
  up : hs.Pairwise (· < ·)
  sub : ∀ x ∈ hs, x ∈ st
  closed : Closed pan hs
  most : ∀ C : List Int, Closed pan C → (∀ x ∈ C, x ∈ st) → ∀ x ∈ C, x ∈ hs
theorem nodup_sub : ∀ {l s : List Int}, l.Nodup → (∀ x ∈ l, x ∈ s) → l.length ≤ s.length
  | [], s, _, _ => Nat.zero_le _
  | x :: r, s, hn, h => by
    rw [List.nodup_cons] at hn
    have hx := h x List.mem_cons_self
    have ih := nodup_sub (l := r) (s := s.erase x) hn.2 fun y hy => (List.mem_erase_of_ne (fun e => hn.1 (by rw [← e]; exact hy))).mpr (h y (List.mem_cons_of_mem _ hy))
    rw [List.length_erase_of_mem hx] at ih
    have := List.length_pos_of_mem hx
    rw [List.length_cons]; omega
theorem not_nodup : ∀ {l : List Int}, ¬ l.Nodup → ∃ i j : Nat, ∃ x : Int, i < j ∧ l[i]? = some x ∧ l[j]? = some x
  | [], h => absurd List.nodup_nil h
  | y :: r, h => by
    by_cases hy : y ∈ r
    · obtain ⟨j, hj⟩ := List.getElem?_of_mem hy
      exact ⟨0, j + 1, y, Nat.succ_pos _, rfl, hj⟩
    · have : ¬ r.Nodup := fun hr => h (List.nodup_cons.mpr ⟨hy, hr⟩)
      obtain ⟨i, j, x, h1, h2, h3⟩ := not_nodup this
      exact ⟨i + 1, j + 1, x, by omega, h2, h3⟩
theorem walk_in {pan : List (List Int)} {st hs : List Int} (h : IsHeld pan st hs) : ∀ (m : Nat) (x : Int), x ∈ hs → ∃ l : List Int, l.length = m ∧ (∀ y ∈ l, y ∈ hs) ∧ (∀ (i : Nat) (y : Int), l[i]? = some y → Pth pan st (i + 1) x y) ∧
    ∀ (i j : Nat) (y z : Int), i < j → l[i]? = some y → l[j]? = some z → Pth pan st (j - i) y z
  | 0, x, _ => ⟨[], rfl, (fun y hy => by cases hy), (fun i y hy => by cases hy), (fun i j y z _ hy => by cases hy)⟩
  | m + 1, x, hx => by
    obtain ⟨c, hc1, hc2⟩ := h.closed x hx
    have r : Rel pan st x c := ⟨h.sub x hx, h.sub c hc2, hc1⟩
    obtain ⟨l, h1, h2, h3, h4⟩ := walk_in h m c hc2
    refine ⟨c :: l, by rw [List.length_cons, h1], fun y hy => (List.mem_cons.mp hy).elim (fun e => e ▸ hc2) (h2 y), fun i y hy => ?_, fun i j y z hij hy hz => ?_⟩
    · match i, hy with
      | 0, hy => cases hy; exact Pth.one r
      | i + 1, hy => exact ⟨c, r, h3 i y hy⟩
    · match i, j, hij, hy, hz with
      | 0, j + 1, _, hy, hz => cases hy; exact h3 j z hz
      | i + 1, j + 1, hij, hy, hz => rw [show j + 1 - (i + 1) = j - i by omega]; exact h4 i j y z (by omega) hy hz
theorem held_loop {pan : List (List Int)} {st hs : List Int} (h : IsHeld pan st hs) {b : Int} (hb : b ∈ hs) : ∃ (l : Int) (i j : Nat), 1 ≤ i ∧ i ≤ st.length ∧ 1 ≤ j ∧ j ≤ st.length ∧ Pth pan st i b l ∧ Pth pan st j l l := by
  obtain ⟨w, w1, w2, w3, w4⟩ := walk_in h (st.length + 1) b hb
  have nd : ¬ w.Nodup := fun hn => by
    have := nodup_sub hn fun x hx => h.sub x (w2 x hx)
    omega
  obtain ⟨i, j, x, hij, hi, hj⟩ := not_nodup nd
  have lj := (List.getElem?_eq_some_iff.mp hj).1
  exact ⟨x, i + 1, j - i, by omega, by omega, by omega, by omega, w3 i x hi, w4 i j x x hij hi hj⟩
theorem loop_held {pan : List (List Int)} {st hs : List Int} (h : IsHeld pan st hs) {b l : Int} {i j : Nat} (hi : 1 ≤ i) (hj : 1 ≤ j) (h1 : Pth pan st i b l) (h2 : Pth pan st j l l) : b ∈ hs := by
  classical
  have key : ∀ x, x ∈ st.filter (fun x => decide (∃ m, 1 ≤ m ∧ Pth pan st m x l)) → x ∈ hs := by
    refine fun x hx => h.most _ (fun y hy => ?_) (fun y hy => (List.mem_filter.mp hy).1) x hx
    obtain ⟨hy1, hy2⟩ := List.mem_filter.mp hy
    obtain ⟨m, hm, hp⟩ := of_decide_eq_true hy2
    obtain ⟨m, rfl⟩ : ∃ k, m = k + 1 := ⟨m - 1, by omega⟩
    obtain ⟨z, r, hp⟩ := hp
    refine ⟨z, r.2.2, List.mem_filter.mpr ⟨r.2.1, decide_eq_true ⟨m + j, by omega, Pth.join hp h2⟩⟩⟩
  refine key b (List.mem_filter.mpr ⟨?_, decide_eq_true ⟨i, hi, h1⟩⟩)
  obtain ⟨i, rfl⟩ : ∃ k, i = k + 1 := ⟨i - 1, by omega⟩
  exact (Pth.ends h1).1
theorem IsHeld.uniq {pan : List (List Int)} {st h1 h2 : List Int} (a : IsHeld pan st h1) (b : IsHeld pan st h2) : h1 = h2 :=
  asc_ext a.up b.up fun x => ⟨fun h => b.most h1 a.closed a.sub x h, fun h => a.most h2 b.closed b.sub x h⟩
def relB (pan : List (List Int)) (os : List Int) (b : Int) : Bool := (pan.getD b.toNat []).any fun c => decide (c ∈ os)
theorem relB_iff {pan : List (List Int)} {os : List Int} {b : Int} : relB pan os b = true ↔ ∃ c ∈ pan.getD b.toNat [], c ∈ os := by
  unfold relB
  rw [List.any_eq_true]
  exact ⟨fun ⟨c, h1, h2⟩ => ⟨c, h1, of_decide_eq_true h2⟩, fun ⟨c, h1, h2⟩ => ⟨c, h1, decide_eq_true h2⟩⟩
/-- on the way to the held buttons -/
structure Hold (pan : List (List Int)) (st hs : List Int) : Prop where
  up : hs.Pairwise (· < ·)
  sub : ∀ x ∈ hs, x ∈ st
  most : ∀ C : List Int, Closed pan C → (∀ x ∈ C, x ∈ st) → ∀ x ∈ C, x ∈ hs
theorem Hold.step {pan : List (List Int)} {st hs : List Int} (h : Hold pan st hs) : Hold pan st (hs.filter (relB pan hs)) := by
  refine ⟨h.up.filter _, fun x hx => h.sub x (List.mem_filter.mp hx).1, fun C hC hs' x hx => List.mem_filter.mpr ⟨h.most C hC hs' x hx, relB_iff.mpr ?_⟩⟩
  obtain ⟨c, h1, h2⟩ := hC x hx
  exact ⟨c, h1, h.most C hC hs' c h2⟩
theorem Hold.done {pan : List (List Int)} {st hs : List Int} (h : Hold pan st hs) (hl : ¬ (hs.filter (relB pan hs)).length < hs.length) : IsHeld pan st hs := by
  have e : (hs.filter (relB pan hs)).length = hs.length := Nat.le_antisymm (List.length_filter_le _ _) (by omega)
  exact ⟨h.up, h.sub, fun b hb => relB_iff.mp (List.length_filter_eq_length_iff.mp e b hb), h.most⟩
/-! ### reach, by doubling -/
/-- rows[x] holds the ends of ways of at most 2 ^ k links, and ends of ways only -/
structure Rch (pan : List (List Int)) (st : List Int) (k : Nat) (rows : List (List Int)) : Prop where
  len : rows.length = pan.length
  sound : ∀ (x : Nat) (l : List Int) (y : Int), rows[x]? = some l → y ∈ l → ∃ m, 1 ≤ m ∧ Pth pan st m (x : Int) y
  full : ∀ (x : Nat) (l : List Int) (y : Int) (m : Nat), rows[x]? = some l → 1 ≤ m → m ≤ 2 ^ k → Pth pan st m (x : Int) y → y ∈ l
theorem Rch.rng {pan : List (List Int)} {st : List Int} {k : Nat} {rows : List (List Int)} (h : Rch pan st k rows) (hs : ∀ x ∈ st, 0 ≤ x ∧ x < (pan.length : Int)) {x : Nat} {l : List Int} (hl : rows[x]? = some l) {y : Int} (hy : y ∈ l) : 0 ≤ y ∧ y < (pan.length : Int) := by
  obtain ⟨m, hm, p⟩ := h.sound x l y hl hy
  obtain ⟨m, rfl⟩ : ∃ k, m = k + 1 := ⟨m - 1, by omega⟩
  exact hs y (Pth.ends p).2
theorem Rch.next {pan : List (List Int)} {st : List Int} {k : Nat} {rows rows' : List (List Int)} (h : Rch pan st k rows) (hs : ∀ x ∈ st, 0 ≤ x ∧ x < (pan.length : Int)) (hl : rows'.length = rows.length)
    (hm : ∀ (x : Nat) (l l' : List Int), rows[x]? = some l → rows'[x]? = some l' → ∀ y, y ∈ l' ↔ (y ∈ l ∨ ∃ z ∈ l, y ∈ rows.getD z.toNat [])) : Rch pan st (k + 1) rows' := by
  have get : ∀ (x : Nat) (l' : List Int), rows'[x]? = some l' → ∃ l, rows[x]? = some l := fun x l' hx => by
    have := (List.getElem?_eq_some_iff.mp hx).1
    exact ⟨rows[x], List.getElem?_eq_getElem (by omega)⟩
  have nth : ∀ (z : Int), 0 ≤ z → z < (pan.length : Int) → rows[z.toNat]? = some (rows.getD z.toNat []) := fun z h0 h1 => by
    have : z.toNat < rows.length := by have := h.len; omega
    rw [List.getD_eq_getElem?_getD, List.getElem?_eq_getElem this]; rfl
  refine ⟨hl.trans h.len, fun x l' y hx hy => ?_, fun x l' y m hx h1 h2 hp => ?_⟩
  · obtain ⟨l, hl'⟩ := get x l' hx
    rcases (hm x l l' hl' hx y).mp hy with q | ⟨z, hz, q⟩
    · exact h.sound x l y hl' q
    · obtain ⟨a, ha, pa⟩ := h.sound x l z hl' hz
      have zr := h.rng hs hl' hz
      obtain ⟨b, hb, pb⟩ := h.sound z.toNat _ y (nth z zr.1 zr.2) q
      rw [Int.toNat_of_nonneg zr.1] at pb
      exact ⟨a + b, by omega, pa.join pb⟩
  · obtain ⟨l, hl'⟩ := get x l' hx
    refine (hm x l l' hl' hx y).mpr ?_
    by_cases hk : m ≤ 2 ^ k
    · exact .inl (h.full x l y m hl' h1 hk hp)
    · have e2 : 2 ^ (k + 1) = 2 ^ k + 2 ^ k := by rw [Nat.pow_succ]; omega
      have p2 : 1 ≤ 2 ^ k := Nat.one_le_two_pow
      rw [show m = 2 ^ k + (m - 2 ^ k) by omega] at hp
      obtain ⟨z, pa, pb⟩ := Pth.split hp
      have hz := h.full x l z (2 ^ k) hl' p2 (Nat.le_refl _) pa
      have zr := h.rng hs hl' hz
      refine .inr ⟨z, hz, h.full z.toNat _ y (m - 2 ^ k) (nth z zr.1 zr.2) (by omega) (by omega) ?_⟩
      rw [Int.toNat_of_nonneg zr.1]; exact pb
theorem Rch.first {pan : List (List Int)} {st : List Int} {rows : List (List Int)} (hl : rows.length = pan.length) (hm : ∀ (x : Nat) (l : List Int), rows[x]? = some l → ∀ y, y ∈ l ↔ Rel pan st (x : Int) y) : Rch pan st 0 rows := by
  refine ⟨hl, fun x l y hx hy => ⟨1, Nat.le_refl _, Pth.one ((hm x l hx y).mp hy)⟩, fun x l y m hx h1 h2 hp => ?_⟩
  obtain rfl : m = 1 := by
    have : (2 : Nat) ^ 0 = 1 := rfl
    omega
  obtain ⟨z, r, e⟩ := hp
  rw [show z = y from e] at r
  exact (hm x l hx y).mpr r
/-- what the law holds for held -/
theorem Rch.held {pan : List (List Int)} {st hs : List Int} {k : Nat} {rows : List (List Int)} (h : Rch pan st k rows) (hk : st.length ≤ 2 ^ k) (hs' : ∀ x ∈ st, 0 ≤ x ∧ x < (pan.length : Int)) (hh : IsHeld pan st hs) {b : Int} (hb : b ∈ st) :
    b ∈ hs ↔ ∃ l ∈ rows.getD b.toNat [], l ∈ st ∧ l ∈ rows.getD l.toNat [] := by
  have nth : ∀ (z : Int), z ∈ st → rows[z.toNat]? = some (rows.getD z.toNat []) := fun z hz => by
    have : z.toNat < rows.length := by have := h.len; have := hs' z hz; omega
    rw [List.getD_eq_getElem?_getD, List.getElem?_eq_getElem this]; rfl
  have cast : ∀ z, z ∈ st → ((z.toNat : Nat) : Int) = z := fun z hz => Int.toNat_of_nonneg (hs' z hz).1
  constructor
  · intro hx
    obtain ⟨l, i, j, i1, i2, j1, j2, p1, p2⟩ := held_loop hh hx
    obtain ⟨j', rfl⟩ : ∃ k, j = k + 1 := ⟨j - 1, by omega⟩
    have hl := (Pth.ends p2).1
    exact ⟨l, h.full b.toNat _ l i (nth b hb) i1 (by omega) (by rw [cast b hb]; exact p1), hl, h.full l.toNat _ l (j' + 1) (nth l hl) j1 (by omega) (by rw [cast l hl]; exact p2)⟩
  · rintro ⟨l, h1, hl, h2⟩
    obtain ⟨i, i1, p1⟩ := h.sound b.toNat _ l (nth b hb) h1
    obtain ⟨j, j1, p2⟩ := h.sound l.toNat _ l (nth l hl) h2
    rw [cast b hb] at p1
    rw [cast l hl] at p2
    exact loop_held hh i1 j1 p1 p2
theorem le_two_pow (n : Nat) : n ≤ 2 ^ n := Nat.le_of_lt Nat.lt_two_pow_self
end Pr
/-! Reaching: the search finds just what rows reach; held and gathered buttons tell it too. -/
namespace Pr
open PySem PySem.Spec PyProof.Rows L2
/-- what b releases -/
abbrev relM (pan : List (List Int)) (b : Int) : List Int := pan.getD b.toNat []
/-- buttons of the panel -/
def InP (pan : List (List Int)) (b : Int) : Prop := 0 ≤ b ∧ b < (pan.length : Int)
theorem runM_cons {pan : List (List Int)} {st row : List Int} {b : Int} : runM pan st (b :: row) = runM pan (pressM pan st b) row := rfl
theorem runM_app {pan : List (List Int)} {st r1 r2 : List Int} : runM pan st (r1 ++ r2) = runM pan (runM pan st r1) r2 := by unfold runM; rw [List.foldl_append]
/-- which buttons may be pressed on the way to the goal -/
def PrOk (pan : List (List Int)) (goal hs G : List Int) (b : Int) : Prop := (b ∈ goal ∧ b ∉ hs) ∨ (b ∈ G ∧ ∀ x ∈ relM pan b, x ∉ hs)
structure IsGath (pan : List (List Int)) (goal hs G : List Int) : Prop where
  rng : ∀ x ∈ G, InP pan x
  out : ∀ x ∈ G, x ∉ goal
  clos : ∀ b, PrOk pan goal hs G b → ∀ x ∈ relM pan b, x ∉ goal → x ∈ G
  rank : ∃ r : Int → Nat, (∀ g ∈ G, 1 ≤ r g) ∧ ∀ g ∈ G, ∃ b, PrOk pan goal hs G b ∧ g ∈ relM pan b ∧ (b ∈ goal ∨ r b < r g)
section
variable {pan : List (List Int)} {goal hs G : List Int}
/-- a button of the goal that is not held releases no held one -/
theorem free_of (hh : IsHeld pan goal hs) {b : Int} (hb : b ∈ goal) (hn : b ∉ hs) : ∀ x ∈ relM pan b, x ∉ hs := fun x hx hxs => by
  refine hn (hh.most (b :: hs) ?_ ?_ b List.mem_cons_self)
  · intro y hy
    rcases List.mem_cons.mp hy with rfl | hy
    · exact ⟨x, hx, List.mem_cons_of_mem _ hxs⟩
    · obtain ⟨z, h1, h2⟩ := hh.closed y hy
      exact ⟨z, h1, List.mem_cons_of_mem _ h2⟩
  · intro y hy
    rcases List.mem_cons.mp hy with rfl | hy
    · exact hb
    · exact hh.sub y hy
theorem PrOk.free (hh : IsHeld pan goal hs) {b : Int} (h : PrOk pan goal hs G b) : ∀ x ∈ relM pan b, x ∉ hs := by
  rcases h with ⟨h1, h2⟩ | ⟨_, h2⟩
  · exact free_of hh h1 h2
  · exact h2
/-- what must hold of a state from which the goal is reached -/
def CanG (goal hs G st : List Int) : Prop := (∀ x ∈ hs, x ∈ st) ∧ ∀ x ∈ st, x ∈ goal ∨ x ∈ G
theorem can_goal (hh : IsHeld pan goal hs) : CanG goal hs G goal := ⟨hh.sub, fun _ h => .inl h⟩
theorem can_pred (own : ∀ (i : Nat) (l : List Int), pan[i]? = some l → (i : Int) ∉ l) (hh : IsHeld pan goal hs) (hG : IsGath pan goal hs G) {st : List Int} (hst : Asc pan.length st) {b : Int} (hb : InP pan b) (h : CanG goal hs G (pressM pan st b)) : CanG goal hs G st := by
  have bt : b ∈ pressM pan st b := mem_pressM.mpr ⟨hb, .inl rfl⟩
  have selfN : b ∉ relM pan b := by
    have hl : b.toNat < pan.length := by have := hb; unfold InP at this; omega
    have := own b.toNat pan[b.toNat] (List.getElem?_eq_getElem hl)
    unfold relM
    rw [List.getD_eq_getElem?_getD, List.getElem?_eq_getElem hl]
    rw [Int.toNat_of_nonneg hb.1] at this
    exact this
  have notrel : ∀ x ∈ relM pan b, x ∉ pressM pan st b := fun x hx hm => by
    rcases (mem_pressM.mp hm).2 with rfl | ⟨_, h2⟩
    · exact selfN hx
    · exact h2 hx
  have nrel : ∀ x ∈ relM pan b, x ∉ hs := fun x hx hxs => notrel x hx (h.1 x hxs)
  have bn : b ∉ hs := fun hbs => by
    obtain ⟨z, h1, h2⟩ := hh.closed b hbs
    exact nrel z h1 h2
  have ok : PrOk pan goal hs G b := by
    rcases h.2 b bt with h1 | h1
    · exact .inl ⟨h1, bn⟩
    · exact .inr ⟨h1, nrel⟩
  refine ⟨fun x hx => ?_, fun x hx => ?_⟩
  · rcases (mem_pressM.mp (h.1 x hx)).2 with rfl | ⟨h1, _⟩
    · exact absurd hx bn
    · exact h1
  · by_cases hr : x ∈ relM pan b
    · by_cases hg : x ∈ goal
      · exact .inl hg
      · exact .inr (hG.clos b ok x hr hg)
    · exact h.2 x (mem_pressM.mpr ⟨hst.rng x hx, .inr ⟨hx, hr⟩⟩)
theorem can_of_run (own : ∀ (i : Nat) (l : List Int), pan[i]? = some l → (i : Int) ∉ l) (hh : IsHeld pan goal hs) (hG : IsGath pan goal hs G) : ∀ {row st : List Int}, Asc pan.length st → (∀ b ∈ row, InP pan b) → runM pan st row = goal → CanG goal hs G st
  | [], st, hst, _, e => by
    have : st = goal := e
    rw [this]; exact can_goal hh
  | b :: row, st, hst, hr, e => can_pred own hh hG hst (hr b List.mem_cons_self) (can_of_run own hh hG (pressM_asc pan st b) (fun c hc => hr c (List.mem_cons_of_mem _ hc)) e)
/-- pressing buttons of a list, none of which releases a held one: the held stay, only what is pressed is new -/
theorem run_keep {row : List Int} : ∀ {st : List Int}, (∀ b ∈ row, InP pan b ∧ ∀ x ∈ relM pan b, x ∉ hs) → (∀ x ∈ hs, InP pan x) → (∀ x ∈ hs, x ∈ st) → (∀ x ∈ hs, x ∈ runM pan st row) ∧ ∀ x ∈ runM pan st row, x ∈ row ∨ x ∈ st := by
  induction row with
  | nil => intro st _ _ h; exact ⟨h, fun x hx => .inr hx⟩
  | cons b row ih =>
    intro st hr hi h
    have hb := hr b List.mem_cons_self
    have := ih (st := pressM pan st b) (fun c hc => hr c (List.mem_cons_of_mem _ hc)) hi (fun x hx => mem_pressM.mpr ⟨hi x hx, .inr ⟨h x hx, fun z => hb.2 x z hx⟩⟩)
    refine ⟨this.1, fun x hx => ?_⟩
    rcases this.2 x hx with h1 | h1
    · exact .inl (List.mem_cons_of_mem _ h1)
    · rcases (mem_pressM.mp h1).2 with rfl | ⟨h2, _⟩
      · exact .inl List.mem_cons_self
      · exact .inr h2
/-- what is released by a pressed button, and is not pressed itself, is gone -/
theorem run_gone {row : List Int} : ∀ {st : List Int} {x : Int}, x ∉ row → ((∃ b ∈ row, x ∈ relM pan b) ∨ x ∉ st) → x ∉ runM pan st row := by
  induction row with
  | nil =>
    intro st x _ h
    rcases h with ⟨b, hb, _⟩ | h
    · cases hb
    · exact h
  | cons b row ih =>
    intro st x hn h
    have n1 : x ≠ b := fun z => hn (z ▸ List.mem_cons_self)
    have n2 : x ∉ row := fun z => hn (List.mem_cons_of_mem _ z)
    refine ih (st := pressM pan st b) n2 ?_
    rcases h with ⟨c, hc, hx⟩ | h
    · rcases List.mem_cons.mp hc with rfl | hc
      · refine .inr fun z => ?_
        rcases (mem_pressM.mp z).2 with e | ⟨_, e⟩
        · exact n1 e
        · exact e hx
      · exact .inl ⟨c, hc, hx⟩
    · refine .inr fun z => ?_
      rcases (mem_pressM.mp z).2 with e | ⟨e, _⟩
      · exact n1 e
      · exact h e
/-- the goal's buttons that are not held can be pressed in some order -/
theorem press_goal (hh : IsHeld pan goal hs) (hi : ∀ x ∈ goal, InP pan x) : ∀ (m : Nat) (S : List Int), S.Nodup → (∀ x ∈ S, x ∈ goal) → (∀ x ∈ hs, x ∈ S) → S.length ≤ m → ∃ row, (∀ b ∈ row, b ∈ S ∧ b ∉ hs) ∧ ∀ st, (∀ x ∈ hs, x ∈ st) → ∀ x ∈ S, x ∈ runM pan st row := by
  intro m
  induction m with
  | zero =>
    intro S _ _ _ hl
    have : S = [] := List.length_eq_zero_iff.mp (by omega)
    subst this
    exact ⟨[], fun b hb => (by cases hb), fun st _ x hx => (by cases hx)⟩
  | succ m ih =>
    intro S nd hS hsS hl
    by_cases hall : ∀ x ∈ S, x ∈ hs
    · exact ⟨[], fun b hb => (by cases hb), fun st h x hx => h x (hall x hx)⟩
    · -- one that releases none of S
      have : ∃ b ∈ S, b ∉ hs ∧ ∀ x ∈ relM pan b, x ∉ S := by
        apply Classical.byContradiction
        intro hno
        apply hall
        refine hh.most S ?_ hS
        intro b hb
        by_cases hbs : b ∈ hs
        · obtain ⟨z, h1, h2⟩ := hh.closed b hbs
          exact ⟨z, h1, hsS z h2⟩
        · apply Classical.byContradiction
          intro hz
          exact hno ⟨b, hb, hbs, fun x hx hxS => hz ⟨x, hx, hxS⟩⟩
      obtain ⟨b, hb, hbn, hfree⟩ := this
      have hlen : (S.erase b).length ≤ m := by rw [List.length_erase_of_mem hb]; omega
      obtain ⟨row, h1, h2⟩ := ih (S.erase b) (nd.erase b) (fun x hx => hS x (List.mem_of_mem_erase hx)) (fun x hx => (List.mem_erase_of_ne (fun e : x = b => hbn (by rw [← e]; exact hx))).mpr (hsS x hx)) hlen
      refine ⟨row ++ [b], fun c hc => ?_, fun st hst x hx => ?_⟩
      · rcases List.mem_append.mp hc with h | h
        · exact ⟨List.mem_of_mem_erase (h1 c h).1, (h1 c h).2⟩
        · rw [List.mem_singleton.mp h]; exact ⟨hb, hbn⟩
      · rw [runM_app]
        show x ∈ pressM pan (runM pan st row) b
        refine mem_pressM.mpr ⟨hi x (hS x hx), ?_⟩
        by_cases e : x = b
        · exact .inl e
        · exact .inr ⟨h2 st hst x ((List.mem_erase_of_ne e).mpr hx), fun z => hfree x z hx⟩
/-- outside buttons can be released -/
theorem release_all (hh : IsHeld pan goal hs) (hG : IsGath pan goal hs G) (hi : ∀ x ∈ goal, InP pan x) {r : Int → Nat} (r1 : ∀ g ∈ G, 1 ≤ r g) (hr : ∀ g ∈ G, ∃ b, PrOk pan goal hs G b ∧ g ∈ relM pan b ∧ (b ∈ goal ∨ r b < r g)) :
    ∀ (m : Nat) (st : List Int), Asc pan.length st → (∀ x ∈ hs, x ∈ st) → (∀ x ∈ st, x ∈ goal ∨ (x ∈ G ∧ r x ≤ m)) → ∃ row, (∀ b ∈ row, InP pan b) ∧ (∀ x ∈ hs, x ∈ runM pan st row) ∧ ∀ x ∈ runM pan st row, x ∈ goal := by
  intro m
  induction m with
  | zero =>
    intro st _ h1 h2
    refine ⟨[], fun b hb => (by cases hb), h1, fun x hx => ?_⟩
    rcases h2 x hx with h | ⟨h, h'⟩
    · exact h
    · have := r1 x h; omega
  | succ m ih =>
    intro st hst h1 h2
    -- the releasers of those of rank m + 1
    have sel : ∀ l : List Int, (∀ g ∈ l, g ∈ G) → ∃ row : List Int, (∀ b ∈ row, PrOk pan goal hs G b ∧ (b ∈ goal ∨ ∃ g ∈ l, r b < r g)) ∧ ∀ g ∈ l, ∃ b ∈ row, g ∈ relM pan b := by
      intro l
      induction l with
      | nil => intro _; exact ⟨[], fun b hb => (by cases hb), fun g hg => (by cases hg)⟩
      | cons g l ihl =>
        intro hl
        obtain ⟨row, a1, a2⟩ := ihl fun g hg => hl g (List.mem_cons_of_mem _ hg)
        obtain ⟨b, b1, b2, b3⟩ := hr g (hl g List.mem_cons_self)
        refine ⟨b :: row, fun c hc => ?_, fun x hx => ?_⟩
        · rcases List.mem_cons.mp hc with rfl | hc
          · exact ⟨b1, b3.imp_right fun h => ⟨g, List.mem_cons_self, h⟩⟩
          · exact ⟨(a1 c hc).1, (a1 c hc).2.imp_right fun ⟨y, y1, y2⟩ => ⟨y, List.mem_cons_of_mem _ y1, y2⟩⟩
        · rcases List.mem_cons.mp hx with rfl | hx
          · exact ⟨b, List.mem_cons_self, b2⟩
          · obtain ⟨c, c1, c2⟩ := a2 x hx
            exact ⟨c, List.mem_cons_of_mem _ c1, c2⟩
    obtain ⟨row, a1, a2⟩ := sel (st.filter fun x => decide (x ∈ G ∧ r x = m + 1)) fun g hg => (of_decide_eq_true (List.mem_filter.mp hg).2).1
    have inP : ∀ b ∈ row, InP pan b := fun b hb => by
      rcases (a1 b hb).1 with ⟨h, _⟩ | ⟨h, _⟩
      · exact hi b h
      · exact hG.rng b h
    have keep := run_keep (pan := pan) (hs := hs) (row := row) (st := st) (fun b hb => ⟨inP b hb, (a1 b hb).1.free hh⟩) (fun x hx => hi x (hh.sub x hx)) h1
    have low : ∀ x ∈ runM pan st row, x ∈ goal ∨ (x ∈ G ∧ r x ≤ m) := fun x hx => by
      by_cases hxr : x ∈ row
      · rcases (a1 x hxr).2 with h | ⟨g, hg, h⟩
        · exact .inl h
        · have hg' := of_decide_eq_true (List.mem_filter.mp hg).2
          rcases (a1 x hxr).1 with ⟨h3, _⟩ | ⟨h3, _⟩
          · exact .inl h3
          · exact .inr ⟨h3, by have := hg'.2; omega⟩
      · rcases keep.2 x hx with h | h
        · exact absurd h hxr
        · rcases h2 x h with h3 | ⟨h3, h4⟩
          · exact .inl h3
          · by_cases e : r x = m + 1
            · obtain ⟨b, b1, b2⟩ := a2 x (List.mem_filter.mpr ⟨h, decide_eq_true ⟨h3, e⟩⟩)
              exact absurd hx (run_gone hxr (.inl ⟨b, b1, b2⟩))
            · exact .inr ⟨h3, by omega⟩
    obtain ⟨row2, c1, c2, c3⟩ := ih (runM pan st row) (runM_asc hst) keep.1 low
    refine ⟨row ++ row2, fun b hb => ?_, ?_, ?_⟩
    · rcases List.mem_append.mp hb with h | h
      · exact inP b h
      · exact c1 b h
    · rw [runM_app]; exact c2
    · rw [runM_app]; exact c3
theorem run_of_can (hh : IsHeld pan goal hs) (hG : IsGath pan goal hs G) (hg : Asc pan.length goal) {st : List Int} (hst : Asc pan.length st) (h : CanG goal hs G st) : ∃ row, (∀ b ∈ row, InP pan b) ∧ runM pan st row = goal := by
  obtain ⟨r, r1, hr⟩ := hG.rank
  have hm : ∃ m, ∀ x ∈ st, x ∈ G → r x ≤ m := by
    have : ∀ l : List Int, ∃ m, ∀ x ∈ l, r x ≤ m := fun l => by
      induction l with
      | nil => exact ⟨0, fun x hx => (by cases hx)⟩
      | cons y l ih =>
        obtain ⟨m, hm⟩ := ih
        refine ⟨max m (r y), fun x hx => ?_⟩
        rcases List.mem_cons.mp hx with rfl | hx
        · exact Nat.le_max_right _ _
        · exact Nat.le_trans (hm x hx) (Nat.le_max_left _ _)
    obtain ⟨m, hm⟩ := this st
    exact ⟨m, fun x hx _ => hm x hx⟩
  obtain ⟨m, hm⟩ := hm
  obtain ⟨row, a1, a2, a3⟩ := release_all hh hG hg.rng r1 hr m st hst h.1 fun x hx => (h.2 x hx).imp_right fun h' => ⟨h', hm x hx h'⟩
  have ndg : goal.Nodup := hg.up.imp (fun {a b} (h : a < b) => Int.ne_of_lt h)
  obtain ⟨row2, b1, b2⟩ := press_goal hh hg.rng goal.length goal ndg (fun _ h => h) hh.sub (Nat.le_refl _)
  have in2 : ∀ b ∈ row2, InP pan b := fun b hb => hg.rng b (b1 b hb).1
  refine ⟨row ++ row2, fun b hb => ?_, ?_⟩
  · rcases List.mem_append.mp hb with h | h
    · exact a1 b h
    · exact in2 b h
  · rw [runM_app]
    refine asc_ext (runM_asc (runM_asc hst)).up hg.up fun x => ⟨fun hx => ?_, fun hx => b2 _ a2 x hx⟩
    have keep := run_keep (pan := pan) (hs := hs) (row := row2) (st := runM pan st row) (fun b hb => ⟨in2 b hb, free_of hh (b1 b hb).1 (b1 b hb).2⟩) (fun y hy => hg.rng y (hh.sub y hy)) a2
    rcases keep.2 x hx with h | h
    · exact (b1 x h).1
    · exact a3 x h
end
end Pr
/-! How the gathered buttons are found. -/
namespace Pr
open PySem PySem.Spec PyProof.Rows L2
structure GInv (pan : List (List Int)) (goal hs G Pd : List Int) : Prop where
  nd : G.Nodup
  rng : ∀ x ∈ G, InP pan x
  out : ∀ x ∈ G, x ∉ goal
  pd : ∀ b ∈ Pd, PrOk pan goal hs G b
  done : ∀ b, PrOk pan goal hs G b → b ∈ Pd ∨ ∀ x ∈ relM pan b, x ∉ goal → x ∈ G
  rank : ∃ (r : Int → Nat) (L : Nat), (∀ g ∈ G, 1 ≤ r g ∧ r g ≤ L) ∧ ∀ g ∈ G, ∃ b, PrOk pan goal hs G b ∧ g ∈ relM pan b ∧ (b ∈ goal ∨ (b ∈ G ∧ r b < r g))
/-- what the pressed ones release, outside -/
def relOut (pan : List (List Int)) (goal G Pd : List Int) : List Int := ((intL pan.length).filter fun x => !decide (x ∈ goal)).filter fun x => (!decide (x ∈ G)) && (Pd.map fun o => decide (x ∈ relM pan o)).any id
def freeOfM (pan : List (List Int)) (hs R : List Int) : List Int := R.filter fun b => !((relM pan b).map fun x => decide (x ∈ hs)).any id
section
variable {pan : List (List Int)} {goal hs G Pd : List Int}
theorem mem_relOut {x : Int} : x ∈ relOut pan goal G Pd ↔ InP pan x ∧ x ∉ goal ∧ x ∉ G ∧ ∃ o ∈ Pd, x ∈ relM pan o := by
  unfold relOut
  rw [List.mem_filter, List.mem_filter, mem_intL]
  simp only [Bool.not_eq_true', decide_eq_false_iff_not, Bool.and_eq_true, List.any_map, List.any_eq_true, Function.comp, id_eq, decide_eq_true_eq]
  unfold InP
  constructor
  · rintro ⟨⟨h1, h2⟩, h3, h4⟩; exact ⟨h1, h2, h3, h4⟩
  · rintro ⟨h1, h2, h3, h4⟩; exact ⟨⟨h1, h2⟩, h3, h4⟩
theorem mem_freeOfM {b : Int} {R : List Int} : b ∈ freeOfM pan hs R ↔ b ∈ R ∧ ∀ x ∈ relM pan b, x ∉ hs := by
  unfold freeOfM
  rw [List.mem_filter]
  simp only [Bool.not_eq_true', List.any_map, List.any_eq_false, Function.comp, id_eq, decide_eq_true_eq]
theorem relOut_nd : (relOut pan goal G Pd).Nodup := by
  unfold relOut
  exact List.Pairwise.filter _ (List.Pairwise.filter _ ((Asc.full pan.length).up.imp fun {a b} (h : a < b) => Int.ne_of_lt h))
theorem ginv_init (hi : ∀ x ∈ goal, InP pan x) : GInv pan goal hs [] (goal.filter fun b => !decide (b ∈ hs)) where
  nd := List.nodup_nil
  rng := fun x hx => by cases hx
  out := fun x hx => by cases hx
  pd := fun b hb => by
    have := List.mem_filter.mp hb
    exact .inl ⟨this.1, by simpa using this.2⟩
  done := fun b hb => by
    rcases hb with ⟨h1, h2⟩ | ⟨h1, _⟩
    · exact .inl (List.mem_filter.mpr ⟨h1, by simpa using h2⟩)
    · cases h1
  rank := ⟨fun _ => 0, 0, fun g hg => (by cases hg), fun g hg => (by cases hg)⟩
theorem ginv_step (rg : ∀ l ∈ pan, ∀ x ∈ l, 0 ≤ x ∧ x < (pan.length : Int)) (h : GInv pan goal hs G Pd) : GInv pan goal hs (G ++ relOut pan goal G Pd) (freeOfM pan hs (relOut pan goal G Pd)) := by
  have up : ∀ {b}, PrOk pan goal hs G b → PrOk pan goal hs (G ++ relOut pan goal G Pd) b := fun {b} hb => hb.imp_right fun ⟨h1, h2⟩ => ⟨List.mem_append_left _ h1, h2⟩
  have inr : ∀ b x, x ∈ relM pan b → InP pan x := fun b x hx => by
    unfold relM at hx
    rw [List.getD_eq_getElem?_getD] at hx
    cases e : pan[b.toNat]? with
    | none => rw [e] at hx; cases hx
    | some l => rw [e] at hx; exact rg l (List.mem_of_getElem? e) x hx
  refine ⟨?_, fun x hx => ?_, fun x hx => ?_, fun b hb => ?_, fun b hb => ?_, ?_⟩
  · rw [List.nodup_append]
    refine ⟨h.nd, relOut_nd, fun a ha b hb e => ?_⟩
    subst e
    exact (mem_relOut.mp hb).2.2.1 ha
  · rcases List.mem_append.mp hx with hx | hx
    · exact h.rng x hx
    · exact (mem_relOut.mp hx).1
  · rcases List.mem_append.mp hx with hx | hx
    · exact h.out x hx
    · exact (mem_relOut.mp hx).2.1
  · have := mem_freeOfM.mp hb
    exact .inr ⟨List.mem_append_right _ this.1, this.2⟩
  · by_cases hold : PrOk pan goal hs G b
    · refine .inr fun x hx hg => ?_
      rcases h.done b hold with hp | hp
      · by_cases hxG : x ∈ G
        · exact List.mem_append_left _ hxG
        · exact List.mem_append_right _ (mem_relOut.mpr ⟨inr b x hx, hg, hxG, b, hp, hx⟩)
      · exact List.mem_append_left _ (hp x hx hg)
    · rcases hb with hb | ⟨h1, h2⟩
      · exact absurd (.inl hb) hold
      · rcases List.mem_append.mp h1 with h1 | h1
        · exact absurd (.inr ⟨h1, h2⟩) hold
        · exact .inl (mem_freeOfM.mpr ⟨h1, h2⟩)
  · obtain ⟨r, L, r1, r2⟩ := h.rank
    refine ⟨fun x => if x ∈ G then r x else L + 1, L + 1, fun g hg => ?_, fun g hg => ?_⟩
    · by_cases e : g ∈ G
      · simp only [if_pos e]; have := r1 g e; omega
      · simp only [if_neg e]; omega
    · by_cases e : g ∈ G
      · obtain ⟨b, b1, b2, b3⟩ := r2 g e
        refine ⟨b, up b1, b2, b3.imp_right fun ⟨c1, c2⟩ => ⟨List.mem_append_left _ c1, ?_⟩⟩
        simp only [if_pos e, if_pos c1]; exact c2
      · have hgR : g ∈ relOut pan goal G Pd := (List.mem_append.mp hg).resolve_left e
        obtain ⟨_, _, _, o, ho, hgo⟩ := mem_relOut.mp hgR
        refine ⟨o, up (h.pd o ho), hgo, ?_⟩
        rcases h.pd o ho with ⟨h1, _⟩ | ⟨h1, _⟩
        · exact .inl h1
        · refine .inr ⟨List.mem_append_left _ h1, ?_⟩
          simp only [if_pos h1, if_neg e]; have := r1 o h1; omega
theorem ginv_end (h : GInv pan goal hs G []) {G' : List Int} (e : ∀ x, x ∈ G' ↔ x ∈ G) : IsGath pan goal hs G' := by
  have pe : ∀ b, PrOk pan goal hs G' b ↔ PrOk pan goal hs G b := fun b => by unfold PrOk; rw [e]
  obtain ⟨r, L, r1, r2⟩ := h.rank
  refine ⟨fun x hx => h.rng x ((e x).mp hx), fun x hx => h.out x ((e x).mp hx), fun b hb x hx hg => ?_, r, fun g hg => (r1 g ((e g).mp hg)).1, fun g hg => ?_⟩
  · rcases h.done b ((pe b).mp hb) with hp | hp
    · cases hp
    · exact (e x).mpr (hp x hx hg)
  · obtain ⟨b, b1, b2, b3⟩ := r2 g ((e g).mp hg)
    exact ⟨b, (pe b).mpr b1, b2, b3.imp_right fun h => h.2⟩
theorem ginv_len (h : GInv pan goal hs G Pd) : G.length ≤ pan.length := by
  have := nodup_sub h.nd (s := intL pan.length) (fun x hx => mem_intL.mpr (h.rng x hx))
  unfold intL at this
  rwa [List.length_map, List.length_range] at this
end
/-! ### the search is complete -/
section
variable {κ : Type} [DecidableEq κ] {step : κ → Nat → κ} {n : Nat} {s : κ}
theorem addK_has (L : BL κ) (k : κ) (r : List Int) : k ∈ (addK L k r).map (·.1) := by
  unfold addK
  split
  · assumption
  · rw [List.map_append]; exact List.mem_append_right _ List.mem_cons_self
theorem procB_has (L : BL κ) (k : κ) (r : List Int) : ∀ (m : Nat) (b : Nat), b < m → step k b ∈ (procB step L k r m).map (·.1) := by
  intro m
  induction m with
  | zero => intro b h; omega
  | succ m ih =>
    intro b hb
    rw [procB_succ]
    by_cases e : b = m
    · subst e; exact addK_has _ _ _
    · obtain ⟨t, ht⟩ := addK_pre (procB step L k r m) (step k m) (r ++ [(m : Int)])
      rw [← ht, List.map_append]
      exact List.mem_append_left _ (ih b (by omega))
theorem bfs_closed {M : Nat} (hM : (bfsN step n s M).length ≤ M) : ∀ x ∈ bfsN step n s M, ∀ b < n, step x.1 b ∈ (bfsN step n s M).map (·.1) := fun x hx b hb => by
  obtain ⟨i, hi⟩ := List.getElem?_of_mem hx
  have hiM : i < M := Nat.lt_of_lt_of_le (List.getElem?_eq_some_iff.mp hi).1 hM
  by_cases hil : i < (bfsN step n s i).length
  · obtain ⟨t, ht⟩ := bfs_pre (step := step) (n := n) (s := s) (Nat.le_of_lt hiM)
    have hx2 : (bfsN step n s i)[i]? = some x := by
      rw [← ht, List.getElem?_append_left hil] at hi
      exact hi
    have e := bfs_step hx2
    obtain ⟨u, hu⟩ := bfs_pre (step := step) (n := n) (s := s) (show i + 1 ≤ M by omega)
    rw [← hu, List.map_append]
    refine List.mem_append_left _ ?_
    rw [e]
    exact procB_has _ _ _ n b hb
  · have := bfs_stop (step := step) (n := n) (s := s) (i := i) (by omega) (Nat.le_of_lt hiM)
    rw [this] at hi
    have := (List.getElem?_eq_some_iff.mp hi).1
    omega
end
theorem reach_step {pan : List (List Int)} (few : pan.length ≤ 10) {st k : List Int} (hst : Asc pan.length st) (hk : k ∈ reachM pan st) {b : Int} (hb : InP pan b) : pressM pan k b ∈ reachM pan st := by
  obtain ⟨x, hx, rfl⟩ := List.mem_map.mp hk
  have hb' : b.toNat < pan.length := by have := hb; unfold InP at this; omega
  have := bfs_closed (step := stepP pan) (n := pan.length) (s := kInt st) (M := 1024) (bfs_few few ⟨st, rfl, hst⟩ 1024) x hx b.toNat hb'
  obtain ⟨y, hy, e⟩ := List.mem_map.mp this
  refine List.mem_map.mpr ⟨y, hy, ?_⟩
  rw [e]
  unfold stepP
  rw [unK_kInt, Int.toNat_of_nonneg hb.1]
theorem reach_run {pan : List (List Int)} (few : pan.length ≤ 10) {st : List Int} (hst : Asc pan.length st) : ∀ {row k : List Int}, k ∈ reachM pan st → (∀ b ∈ row, InP pan b) → runM pan k row ∈ reachM pan st
  | [], _, hk, _ => hk
  | b :: row, _, hk, hr => reach_run few hst (row := row) (reach_step few hst hk (hr b List.mem_cons_self)) fun c hc => hr c (List.mem_cons_of_mem _ hc)
theorem reach_self {pan : List (List Int)} (st : List Int) : st ∈ reachM pan st := by
  obtain ⟨t, ht⟩ := bfs_pre (step := stepP pan) (n := pan.length) (s := kInt st) (Nat.zero_le 1024)
  unfold reachM foundM
  rw [← ht, List.map_append]
  refine List.mem_append_left _ ?_
  show st ∈ [unK (kInt st)]
  rw [unK_kInt]; exact List.mem_singleton.mpr rfl
theorem reach_iff {pan : List (List Int)} (few : pan.length ≤ 10) {st : List Int} (hst : Asc pan.length st) {k : List Int} : k ∈ reachM pan st ↔ ∃ row, (∀ b ∈ row, InP pan b) ∧ runM pan st row = k := by
  constructor
  · intro hk
    obtain ⟨x, hx, rfl⟩ := List.mem_map.mp hk
    exact bfs_all (P := fun k => ∃ row, (∀ b ∈ row, InP pan b) ∧ runM pan st row = unK k) (step := stepP pan) (n := pan.length) (s := kInt st) ⟨[], fun b hb => (by cases hb), by rw [unK_kInt]; rfl⟩
      (fun k b ⟨row, h1, h2⟩ hb => ⟨row ++ [(b : Int)], fun c hc => by
        rcases List.mem_append.mp hc with h | h
        · exact h1 c h
        · rw [List.mem_singleton.mp h]; unfold InP; omega, by
        rw [runM_app, h2]; unfold stepP; rw [unK_kInt]; rfl⟩) 1024 x hx
  · rintro ⟨row, h1, rfl⟩
    exact reach_run few hst (reach_self st) h1
/-- the document's two ways to say it -/
theorem reach_can {pan : List (List Int)} (g : Good pan) {st goal hs G : List Int} (hst : Asc pan.length st) (hg : Asc pan.length goal) (hh : IsHeld pan goal hs) (hG : IsGath pan goal hs G) : goal ∈ reachM pan st ↔ CanG goal hs G st := by
  rw [reach_iff g.few hst]
  constructor
  · rintro ⟨row, h1, h2⟩
    exact can_of_run g.own hh hG hst h1 h2
  · exact run_of_can hh hG hg hst
end Pr
/-! The rows that a search finds are the shortest; from rest the shortest one presses each button of the goal once. -/
namespace Pr
open PySem PySem.Spec PyProof.Rows L2
section
variable {κ : Type} [DecidableEq κ] {step : κ → Nat → κ} {n : Nat} {s : κ}
def rowK (step : κ → Nat → κ) (s : κ) (r : List Int) : κ := r.foldl (fun k b => step k b.toNat) s
theorem rowK_snoc {r : List Int} {b : Int} : rowK step s (r ++ [b]) = step (rowK step s r) b.toNat := by unfold rowK; rw [List.foldl_append]; rfl
theorem procB_each {I : κ × List Int → Prop} {L : BL κ} {k : κ} {r : List Int} (h : ∀ x ∈ L, I x) : ∀ m, (∀ b, b < m → I (step k b, r ++ [(b : Int)])) → ∀ x ∈ procB step L k r m, I x
  | 0, _ => h
  | m + 1, hb => by
    rw [procB_succ]
    unfold addK
    split
    · exact procB_each h m fun b q => hb b (by omega)
    · intro x hx
      rcases List.mem_append.mp hx with hx | hx
      · exact procB_each h m (fun b q => hb b (by omega)) x hx
      · rw [List.mem_singleton.mp hx]; exact hb m (by omega)
theorem bfs_each {I : κ × List Int → Prop} (h0 : I (s, [])) (hs : ∀ x b, I x → b < n → I (step x.1 b, x.2 ++ [(b : Int)])) : ∀ i, ∀ x ∈ bfsN step n s i, I x
  | 0 => fun x hx => by rw [List.mem_singleton.mp hx]; exact h0
  | i + 1 => by
    by_cases hi : i < (bfsN step n s i).length
    · rw [bfs_step (List.getElem?_eq_getElem hi)]
      exact procB_each (bfs_each h0 hs i) n fun b hb => hs _ b (bfs_each h0 hs i _ (List.getElem_mem hi)) hb
    · rw [bfs_stop (by omega) (Nat.le_succ i)]; exact bfs_each h0 hs i
theorem bfs_row (i : Nat) : ∀ x ∈ bfsN step n s i, x.1 = rowK step s x.2 ∧ ∀ b ∈ x.2, 0 ≤ b ∧ b < (n : Int) :=
  bfs_each (I := fun x => x.1 = rowK step s x.2 ∧ ∀ b ∈ x.2, 0 ≤ b ∧ b < (n : Int)) ⟨rfl, fun b hb => by cases hb⟩ (fun x b h hb => ⟨by rw [rowK_snoc, ← h.1, Int.toNat_natCast], fun c hc => by
    rcases List.mem_append.mp hc with q | q
    · exact h.2 c q
    · rw [List.mem_singleton.mp q]; omega⟩) i
theorem procB_more (L : BL κ) (k : κ) (r : List Int) : ∀ m, ∃ M, procB step L k r m = L ++ M ∧ ∀ y ∈ M, y.2.length = r.length + 1
  | 0 => ⟨[], by rw [List.append_nil]; rfl, fun y hy => by cases hy⟩
  | m + 1 => by
    obtain ⟨M, e, h⟩ := procB_more L k r m
    rw [procB_succ]
    unfold addK
    split
    · exact ⟨M, e, h⟩
    · refine ⟨M ++ [(step k m, r ++ [(m : Int)])], by rw [e, List.append_assoc], fun y hy => ?_⟩
      rcases List.mem_append.mp hy with q | q
      · exact h y q
      · rw [List.mem_singleton.mp q, List.length_append]; rfl
structure Lv (step : κ → Nat → κ) (n : Nat) (L : BL κ) (i : Nat) : Prop where
  up : L.Pairwise fun a b => a.2.length ≤ b.2.length
  top : ∀ x, L[i]? = some x → ∀ y ∈ L, y.2.length ≤ x.2.length + 1
  near : ∀ j < i, ∀ x, L[j]? = some x → ∀ b < n, ∃ y ∈ L, y.1 = step x.1 b ∧ y.2.length ≤ x.2.length + 1
theorem lv_bfs : ∀ i, Lv step n (bfsN step n s i) i
  | 0 => ⟨List.pairwise_singleton _ _, fun x hx y hy => by
      rw [List.mem_singleton.mp hy]; exact Nat.zero_le _, fun j hj => by omega⟩
  | i + 1 => by
    have h := lv_bfs i
    by_cases hi : i < (bfsN step n s i).length
    · have ex := List.getElem?_eq_getElem hi
      generalize (bfsN step n s i)[i] = x at ex
      rw [bfs_step ex]
      obtain ⟨M, e, hM⟩ := procB_more (step := step) (bfsN step n s i) x.1 x.2 n
      have hup : (procB step (bfsN step n s i) x.1 x.2 n).Pairwise fun a b => a.2.length ≤ b.2.length := by
        rw [e]
        refine List.pairwise_append.mpr ⟨h.up, ?_, fun a ha b hb => ?_⟩
        · exact List.pairwise_of_forall_mem_list fun a ha b hb => by rw [hM a ha, hM b hb]; exact Nat.le_refl _
        · rw [hM b hb]; exact h.top x ex a ha
      have hall : ∀ y ∈ procB step (bfsN step n s i) x.1 x.2 n, y.2.length ≤ x.2.length + 1 := fun y hy => by
        rw [e] at hy
        rcases List.mem_append.mp hy with q | q
        · exact h.top x ex y q
        · rw [hM y q]; exact Nat.le_refl _
      have ex2 : (procB step (bfsN step n s i) x.1 x.2 n)[i]? = some x := by rw [e, List.getElem?_append_left hi]; exact ex
      refine ⟨hup, fun z hz y hy => ?_, fun j hj z hz b hb => ?_⟩
      · have h1 := hall y hy
        obtain ⟨g1, g2⟩ := List.getElem?_eq_some_iff.mp ex2
        obtain ⟨g3, g4⟩ := List.getElem?_eq_some_iff.mp hz
        have := List.pairwise_iff_getElem.mp hup i (i + 1) g1 g3 (by omega)
        rw [g2, g4] at this
        omega
      · by_cases ej : j = i
        · subst ej
          rw [ex2] at hz; cases hz
          obtain ⟨y, hy, ey⟩ := List.mem_map.mp (procB_has (step := step) (bfsN step n s j) x.1 x.2 n b hb)
          exact ⟨y, hy, ey, hall y hy⟩
        · rw [e, List.getElem?_append_left (by omega)] at hz
          obtain ⟨y, hy, e1, e2⟩ := h.near j (by omega) z hz b hb
          exact ⟨y, by rw [e]; exact List.mem_append_left _ hy, e1, e2⟩
    · rw [bfs_stop (by omega) (Nat.le_succ i)]
      refine ⟨h.up, fun z hz => ?_, fun j hj z hz => ?_⟩
      · have := (List.getElem?_eq_some_iff.mp hz).1; omega
      · have := (List.getElem?_eq_some_iff.mp hz).1
        exact h.near j (by omega) z hz
theorem bfs_short {M : Nat} (hM : (bfsN step n s M).length ≤ M) (r : List Int) : (∀ b ∈ r, 0 ≤ b ∧ b < (n : Int)) → ∃ y ∈ bfsN step n s M, y.1 = rowK step s r ∧ y.2.length ≤ r.length := by
  generalize hl : r.length = l
  induction l generalizing r with
  | zero =>
    intro _
    obtain rfl := List.length_eq_zero_iff.mp hl
    obtain ⟨t, ht⟩ := bfs_pre (step := step) (n := n) (s := s) (Nat.zero_le M)
    refine ⟨(s, []), ?_, rfl, Nat.le_refl _⟩
    rw [← ht]
    exact List.mem_append_left _ (List.mem_singleton.mpr rfl)
  | succ l ih =>
    intro hr
    have hne : r ≠ [] := fun z => by rw [z] at hl; cases hl
    have er := List.dropLast_concat_getLast hne
    have hl2 : r.dropLast.length = l := by rw [List.length_dropLast]; omega
    obtain ⟨y, hy, e1, e2⟩ := ih r.dropLast hl2 fun b hb => hr b (by rw [← er]; exact List.mem_append_left _ hb)
    obtain ⟨j, hj⟩ := List.getElem?_of_mem hy
    have hb := hr (r.getLast hne) (List.getLast_mem hne)
    have hjl := (List.getElem?_eq_some_iff.mp hj).1
    obtain ⟨z, hz, e3, e4⟩ := (lv_bfs (step := step) (n := n) (s := s) M).near j (by omega) y hj (r.getLast hne).toNat (by omega)
    exact ⟨z, hz, by rw [e3, e1, ← rowK_snoc (step := step) (s := s), er], by omega⟩
end
theorem rowK_run {pan : List (List Int)} : ∀ {r : List Int} {st : List Int}, (∀ b ∈ r, InP pan b) → rowK (stepP pan) (kInt st) r = kInt (runM pan st r)
  | [], _, _ => rfl
  | b :: r, st, h => by
    have hb := h b List.mem_cons_self
    show rowK (stepP pan) (stepP pan (kInt st) b.toNat) r = _
    unfold stepP
    rw [unK_kInt, Int.toNat_of_nonneg hb.1]
    exact rowK_run fun c hc => h c (List.mem_cons_of_mem _ hc)
/-- the way that is found, if there is one -/
theorem way_min {pan : List (List Int)} (few : pan.length ≤ 10) {st goal : List Int} (hst : Asc pan.length st) :
    (wayOf (foundM pan st) (kInt goal) = .none ∧ goal ∉ reachM pan st) ∨ ∃ r, wayOf (foundM pan st) (kInt goal) = dInts r ∧ goal ∈ reachM pan st ∧ (∀ b ∈ r, InP pan b) ∧ runM pan st r = goal ∧ ∀ row, (∀ b ∈ row, InP pan b) → runM pan st row = goal → r.length ≤ row.length := by
  unfold wayOf
  cases e : (foundM pan st).find? fun x => decide (x.1 = kInt goal) with
  | none =>
    refine .inl ⟨rfl, fun hk => ?_⟩
    obtain ⟨x, hx, e2⟩ := List.mem_map.mp hk
    have := List.find?_eq_none.mp e x hx
    simp only [decide_eq_true_eq] at this
    exact this (by rw [← e2, found_key hst x hx])
  | some x =>
    have hx := List.mem_of_find?_eq_some e
    have e2 : x.1 = kInt goal := by simpa using List.find?_some e
    have hr := bfs_row (step := stepP pan) (n := pan.length) (s := kInt st) 1024 x hx
    have hr2 : ∀ b ∈ x.2, InP pan b := fun b hb => hr.2 b hb
    refine .inr ⟨x.2, rfl, List.mem_map.mpr ⟨x, hx, by rw [e2, unK_kInt]⟩, hr2, ?_, fun row h1 h2 => ?_⟩
    · have := hr.1
      rw [rowK_run hr2, e2] at this
      rw [← unK_kInt (runM pan st x.2), ← this, unK_kInt]
    · obtain ⟨y, hy, e3, e4⟩ := bfs_short (step := stepP pan) (n := pan.length) (s := kInt st) (M := 1024) (bfs_few few ⟨st, rfl, hst⟩ 1024) row (fun b hb => h1 b hb)
      rw [rowK_run (fun b hb => h1 b hb), h2, ← e2] at e3
      have : y = x := by
        have nd := found_nd pan st
        obtain ⟨i, hi⟩ := List.getElem?_of_mem hx
        obtain ⟨j, hj⟩ := List.getElem?_of_mem (show y ∈ foundM pan st from hy)
        obtain ⟨i1, i2⟩ := List.getElem?_eq_some_iff.mp hi
        obtain ⟨j1, j2⟩ := List.getElem?_eq_some_iff.mp hj
        have : j = i := (List.getElem_inj (h₀ := by rw [List.length_map]; exact j1) (h₁ := by rw [List.length_map]; exact i1) nd).mp (by rw [List.getElem_map, List.getElem_map, i2, j2, e3])
        subst this
        rw [hi] at hj; cases hj; rfl
      rw [← this]; exact e4
/-- no held button: the goal's buttons in some order lead to it from rest -/
theorem press_once {pan : List (List Int)} {goal : List Int} (hh : IsHeld pan goal []) (hi : ∀ x ∈ goal, InP pan x) : ∀ (m : Nat) (S : List Int), S.Nodup → (∀ x ∈ S, x ∈ goal) → S.length ≤ m → ∃ row : List Int, row.length ≤ S.length ∧ (∀ b ∈ row, b ∈ S) ∧ ∀ st, ∀ x ∈ S, x ∈ runM pan st row := by
  intro m
  induction m with
  | zero =>
    intro S _ _ hl
    have : S = [] := List.length_eq_zero_iff.mp (by omega)
    subst this
    exact ⟨[], Nat.le_refl _, fun b hb => (by cases hb), fun st x hx => (by cases hx)⟩
  | succ m ih =>
    intro S nd hS hl
    by_cases hall : S = []
    · subst hall
      exact ⟨[], Nat.le_refl _, fun b hb => (by cases hb), fun st x hx => (by cases hx)⟩
    · have : ∃ b ∈ S, ∀ x ∈ relM pan b, x ∉ S := by
        apply Classical.byContradiction
        intro hno
        cases S with
        | nil => exact hall rfl
        | cons c r =>
          have := hh.most (c :: r) (fun b hb => by
            apply Classical.byContradiction
            intro hz
            exact hno ⟨b, hb, fun x hx hxS => hz ⟨x, hx, hxS⟩⟩) hS c List.mem_cons_self
          cases this
      obtain ⟨b, hb, hfree⟩ := this
      have hlen : (S.erase b).length ≤ m := by rw [List.length_erase_of_mem hb]; omega
      obtain ⟨row, h0, h1, h2⟩ := ih (S.erase b) (nd.erase b) (fun x hx => hS x (List.mem_of_mem_erase hx)) hlen
      refine ⟨row ++ [b], ?_, fun c hc => ?_, fun st x hx => ?_⟩
      · rw [List.length_append]
        rw [List.length_erase_of_mem hb] at h0
        have := List.length_pos_of_mem hb
        show _ + 1 ≤ _; omega
      · rcases List.mem_append.mp hc with h | h
        · exact List.mem_of_mem_erase (h1 c h)
        · rw [List.mem_singleton.mp h]; exact hb
      · rw [runM_app]
        show x ∈ pressM pan (runM pan st row) b
        refine mem_pressM.mpr ⟨hi x (hS x hx), ?_⟩
        by_cases e : x = b
        · exact .inl e
        · exact .inr ⟨h2 st x ((List.mem_erase_of_ne e).mpr hx), fun z => hfree x z hx⟩
theorem rest_row {pan : List (List Int)} {goal : List Int} (hg : Asc pan.length goal) (hh : IsHeld pan goal []) : ∃ row : List Int, row.length ≤ goal.length ∧ (∀ b ∈ row, InP pan b) ∧ runM pan [] row = goal := by
  have nd : goal.Nodup := hg.up.imp fun {a b} h => by omega
  obtain ⟨row, h0, h1, h2⟩ := press_once hh (fun x hx => hg.rng x hx) goal.length goal nd (fun _ h => h) (Nat.le_refl _)
  have hr : ∀ b ∈ row, InP pan b := fun b hb => hg.rng b (h1 b hb)
  refine ⟨row, h0, hr, ?_⟩
  have hk := (run_keep (pan := pan) (hs := []) (row := row) (st := []) (fun b hb => ⟨hr b hb, fun x _ z => by cases z⟩) (fun x hx => by cases hx) (fun x hx => by cases hx)).2
  have ha : Asc pan.length (runM pan [] row) := runM_asc (Asc.nil _)
  refine asc_ext ha.up hg.up fun x => ⟨fun hx => ?_, fun hx => h2 [] x hx⟩
  rcases hk x hx with h | h
  · exact h1 x h
  · cases h
theorem perm_sub : ∀ {l r : List Int}, l.Nodup → (∀ x ∈ l, x ∈ r) → r.length ≤ l.length → l.Perm r
  | [], r, _, _, h => by
    have : r = [] := List.length_eq_zero_iff.mp (by simpa using h)
    rw [this]
  | x :: l, r, nd, hs, h => by
    rw [List.nodup_cons] at nd
    have hx := hs x List.mem_cons_self
    have hp := List.perm_cons_erase hx
    refine List.Perm.trans (List.Perm.cons x (perm_sub nd.2 (fun y hy => ?_) ?_)) hp.symm
    · exact (List.mem_erase_of_ne (fun e : y = x => nd.1 (e ▸ hy))).mpr (hs y (List.mem_cons_of_mem _ hy))
    · rw [List.length_erase_of_mem hx]
      have : (x :: l).length = l.length + 1 := rfl
      omega
/-- the shortest row from rest is the goal's buttons, each once -/
theorem rest_short {pan : List (List Int)} {goal r : List Int} (hg : Asc pan.length goal) (hh : IsHeld pan goal []) (hr : ∀ b ∈ r, InP pan b) (e : runM pan [] r = goal) (hm : ∀ row, (∀ b ∈ row, InP pan b) → runM pan [] row = goal → r.length ≤ row.length) : srt r = goal := by
  obtain ⟨row, h0, h1, h2⟩ := rest_row hg hh
  have hlen := Nat.le_trans (hm row h1 h2) h0
  have nd : goal.Nodup := hg.up.imp fun {a b} h => by omega
  have sub : ∀ x ∈ goal, x ∈ r := fun x hx => by
    rw [← e] at hx
    rcases (run_keep (pan := pan) (hs := []) (row := r) (st := []) (fun b hb => ⟨hr b hb, fun x _ z => by cases z⟩) (fun x hx => by cases hx) (fun x hx => by cases hx)).2 x hx with h | h
    · exact h
    · cases h
  exact srt_eq (perm_sub nd sub hlen) (hg.up.imp fun {a b} h => by omega)
/-- reached from rest, exactly if nothing is held -/
theorem rest_iff {pan : List (List Int)} (g : Good pan) {goal hs G : List Int} (hg : Asc pan.length goal) (hh : IsHeld pan goal hs) (hG : IsGath pan goal hs G) : goal ∈ reachM pan [] ↔ hs = [] := by
  rw [reach_can g (Asc.nil _) hg hh hG]
  constructor
  · intro h
    cases hs with
    | nil => rfl
    | cons x r => have := h.1 x List.mem_cons_self; cases this
  · rintro rfl
    exact ⟨fun x hx => (by cases hx), fun x hx => (by cases hx)⟩
theorem rest_of {pan : List (List Int)} (g : Good pan) {goal : List Int} (hg : Asc pan.length goal) (hh : IsHeld pan goal []) : goal ∈ reachM pan [] := by
  obtain ⟨row, _, h1, h2⟩ := rest_row hg hh
  exact (reach_iff g.few (Asc.nil _)).mpr ⟨row, h1, h2⟩
/-- fewer buttons: nothing is held either -/
theorem held_less {pan : List (List Int)} {goal less : List Int} (hh : IsHeld pan goal []) (hs : ∀ x ∈ less, x ∈ goal) : IsHeld pan less [] :=
  ⟨List.Pairwise.nil, fun x hx => (by cases hx), fun b hb => (by cases hb), fun C hC hx => hh.most C hC fun x h => hs x (hx x h)⟩
/-- there are held buttons, and gathered ones -/
theorem held_is {pan : List (List Int)} {st : List Int} (up : st.Pairwise (· < ·)) : ∃ hs, IsHeld pan st hs := by
  have : ∀ (m : Nat) (hs : List Int), Hold pan st hs → hs.length ≤ m → ∃ hs, IsHeld pan st hs := by
    intro m
    induction m with
    | zero =>
      intro hs h hl
      exact ⟨hs, h.done (by omega)⟩
    | succ m ih =>
      intro hs h hl
      by_cases e : (hs.filter (relB pan hs)).length < hs.length
      · exact ih _ h.step (by omega)
      · exact ⟨hs, h.done e⟩
  exact this st.length st ⟨up, fun _ h => h, fun C _ h => h⟩ (Nat.le_refl _)
theorem gath_is {pan : List (List Int)} (g : Good pan) {goal hs : List Int} (hi : ∀ x ∈ goal, InP pan x) : ∃ G, IsGath pan goal hs G := by
  have : ∀ (m : Nat) (G Pd : List Int), GInv pan goal hs G Pd → pan.length - G.length ≤ m → ∃ G, IsGath pan goal hs G := by
    intro m
    induction m with
    | zero =>
      intro G Pd h hl
      have h2 := ginv_step g.rng h
      have l2 := ginv_len h2
      rw [List.length_append] at l2
      have e : relOut pan goal G Pd = [] := List.length_eq_zero_iff.mp (by omega)
      rw [e] at h2
      exact ⟨_, ginv_end h2 fun _ => Iff.rfl⟩
    | succ m ih =>
      intro G Pd h hl
      have h2 := ginv_step g.rng h
      by_cases e : relOut pan goal G Pd = []
      · rw [e] at h2
        exact ⟨_, ginv_end h2 fun _ => Iff.rfl⟩
      · have : 0 < (relOut pan goal G Pd).length := List.length_pos_iff.mpr e
        exact ih _ _ h2 (by rw [List.length_append]; omega)
  exact this pan.length [] _ (ginv_init hi) (by omega)
theorem reach_nd {pan : List (List Int)} {st : List Int} (hst : Asc pan.length st) : (reachM pan st).Nodup := by
  unfold reachM
  have nd := found_nd pan st
  rw [List.nodup_iff_pairwise_ne, List.pairwise_map] at nd ⊢
  refine List.Pairwise.imp_of_mem (fun {a b} ha hb h e => h ?_) nd
  rw [← found_key hst a ha, ← found_key hst b hb, e]
/-- x is not True, of bools -/
def rNotT : V → V → Hp → VK → Prop := fun x y H Q => ∃ b : Bool, x = .bl b ∧ y = .bl true ∧ Q (.bl (!b)) H
theorem op_notT {X : Cx} : OpR X (compareOp .IsNot) rNotT := by
  intro pins s σ H x y v u Q I rx ry h
  obtain ⟨b, rfl, rfl, q⟩ := h
  cases rx; cases ry
  cases b
  · exact wpAny_isNot_other rfl (by intro z; cases z) (fin_bl I q rfl)
  · exact wpAny_isNot_self rfl (fin_bl I q rfl)
end Pr
/-! Expressions that make data and leave all that stood. -/
namespace Pr
open PySem PySem.Spec PyProof.Rows L2
section
variable (K : PySem.W.Frag) (N : Addr → Prop) (σ : L2.St) (H0 : Hp)
def Ev (t : TE) (P : PyData → Prop) : Prop := ∀ (H : Hp) (Q : VK), Same H0 H → (∀ v d H', Same H H' → Dq K N H' v d → P d → Q v H') → t σ H Q
def EvA (t : TA) (P : List PyData → Prop) : Prop := ∀ (H : Hp) (Q : List V → Hp → Prop), Same H0 H → (∀ vs ds H', Same H H' → DqAll K N H' vs ds → P ds → Q vs H') → t σ H Q
end
/-- n items of which P holds -/
def AllP (P : PyData → Prop) (n : Nat) (ds : List PyData) : Prop := ds.length = n ∧ ∀ d ∈ ds, P d
/-- a tuple of at most n items of which P holds -/
def TupP (P : PyData → Prop) (n : Nat) (d : PyData) : Prop := ∃ ds, d = .tuple ds ∧ ds.length ≤ n ∧ ∀ x ∈ ds, P x
def LstP (P : PyData → Prop) (n : Nat) (d : PyData) : Prop := ∃ ds, d = .list ds ∧ ds.length ≤ n ∧ ∀ x ∈ ds, P x
theorem AllP.nil {P : PyData → Prop} : AllP P 0 [] := ⟨rfl, fun _ h => by cases h⟩
theorem AllP.cons {P : PyData → Prop} {n : Nat} {d : PyData} {ds : List PyData} (h : P d) (r : AllP P n ds) : AllP P (n + 1) (d :: ds) :=
  ⟨by rw [List.length_cons, r.1], fun x hx => by
    rcases List.mem_cons.mp hx with rfl | hx
    · exact h
    · exact r.2 x hx⟩
theorem AllP.append {P : PyData → Prop} {n m : Nat} {ds es : List PyData} (h : AllP P n ds) (r : AllP P m es) : AllP P (n + m) (ds ++ es) :=
  ⟨by rw [List.length_append, h.1, r.1], fun x hx => (List.mem_append.mp hx).elim (h.2 x) (r.2 x)⟩
theorem AllP.mono {P P' : PyData → Prop} {n : Nat} {ds : List PyData} (h : AllP P n ds) (f : ∀ d, P d → P' d) : AllP P' n ds := ⟨h.1, fun d hd => f d (h.2 d hd)⟩
theorem TupP.mono {P P' : PyData → Prop} {n m : Nat} {d : PyData} (h : TupP P n d) (f : ∀ d, P d → P' d) (hm : n ≤ m) : TupP P' m d :=
  let ⟨ds, e, l, q⟩ := h; ⟨ds, e, Nat.le_trans l hm, fun x hx => f x (q x hx)⟩
section
variable {K : PySem.W.Frag} {N : Addr → Prop} {σ : L2.St} {H0 : Hp} {P P' : PyData → Prop} {t t1 t2 : TE} {ta : TA}
theorem Ev.weak (h : Ev K N σ H0 t P) (f : ∀ d, P d → P' d) : Ev K N σ H0 t P' := fun H Q s k => h H Q s fun v d H' s' hd hp => k v d H' s' hd (f d hp)
theorem EvA.weak {R R' : List PyData → Prop} (h : EvA K N σ H0 ta R) (f : ∀ d, R d → R' d) : EvA K N σ H0 ta R' := fun H Q s k => h H Q s fun v d H' s' hd hp => k v d H' s' hd (f d hp)
theorem ev_int {i : Int} (h : P (.int i)) : Ev K N σ H0 (tC (.int i)) P := fun H Q s k => k _ _ H (Same.refl _) (.int i) h
theorem ev_bl {b : Bool} (h : P (.bool b)) : Ev K N σ H0 (tC (.bl b)) P := fun H Q s k => k _ _ H (Same.refl _) (.bl b) h
theorem ev_non (h : P .none) : Ev K N σ H0 (tC .non) P := fun H Q s k => k _ _ H (Same.refl _) .non h
theorem ev_str {x : Str} (h : P (.str x)) : Ev K N σ H0 (tC (.str x)) P := fun H Q s k => k _ _ H (Same.refl _) (.str x) h
theorem ev_neg {i : Int} (h : P (.int (-i))) : Ev K N σ H0 (tUn (rU fun i => .int (-i)) (tC (.int i))) P := fun H Q s k => ⟨i, rfl, k _ _ H (Same.refl _) (.int (-i)) h⟩
theorem ev_pow {i j : Int} (hc : CPow i j) (h : P (.int (i ^ j.toNat))) : Ev K N σ H0 (tOp (rI CPow fun i j => .int (i ^ j.toNat)) (tC (.int i)) (tC (.int j))) P := fun H Q s k => ⟨i, j, rfl, rfl, hc, k _ _ H (Same.refl _) (.int _) h⟩
theorem ev_var (i : Nat) {v : V} {d : PyData} (hv : σ[i]? = some (some v)) (hd : Dq K N H0 v d) (h : P d) : Ev K N σ H0 (tVar i) P := fun H Q s k => ⟨v, hv, k _ _ H (Same.refl _) (Dq.same s d v hd) h⟩
theorem eva_nil {R : List PyData → Prop} (h : R []) : EvA K N σ H0 tNil R := fun H Q s k => k [] [] H (Same.refl _) .nil h
theorem eva_cons {n : Nat} (h : Ev K N σ H0 t P) (r : EvA K N σ H0 ta (AllP P n)) : EvA K N σ H0 (tCons t ta) (AllP P (n + 1)) := fun H Q s k =>
  h H _ s fun v d H1 s1 hd hp => r H1 _ (s.trans s1) fun vs ds H2 s2 hds hps => k (v :: vs) (d :: ds) H2 (s1.trans s2) (.cons (Dq.same s2 d v hd) hds) (hps.cons hp)
theorem eva_consE {d : PyData} {ds : List PyData} (h : Ev K N σ H0 t (· = d)) (r : EvA K N σ H0 ta (· = ds)) : EvA K N σ H0 (tCons t ta) (· = d :: ds) := fun H Q s k =>
  h H _ s fun v d' H1 s1 hd hp => r H1 _ (s.trans s1) fun vs ds' H2 s2 hds hps => k (v :: vs) (d' :: ds') H2 (s1.trans s2) (.cons (Dq.same s2 d' v hd) hds) (by rw [hp, hps])
theorem ev_tup {R : List PyData → Prop} (h : EvA K N σ H0 ta R) (hz : ∀ ds, R ds → ds.length ≤ 1000) (f : ∀ ds, R ds → P (.tuple ds)) : Ev K N σ H0 (tTup ta) P := fun H Q s k =>
  h H _ s fun vs ds H1 s1 hds hp => ⟨by rw [hds.length]; exact Nat.le_of_lt (small1000 (hz ds hp)), fun p np => k _ _ _ (s1.trans (same_new np)) (.tup (.inl (.inl upd_same)) (Dq.sameAll (same_new np) ds vs hds)) (f ds hp)⟩
theorem ev_lst {R : List PyData → Prop} (kN : ∀ x, N x → H0 x ≠ none) (h : EvA K N σ H0 ta R) (hz : ∀ ds, R ds → ds.length ≤ 1000) (f : ∀ ds, R ds → P (.list ds)) : Ev K N σ H0 (tLstG ta) P := fun H Q s k =>
  h H _ s fun vs ds H1 s1 hds hp => ⟨by rw [hds.length]; exact Nat.le_of_lt (small1000 (hz ds hp)), fun p np hsys => by
    have fr : ¬ N p := fun e => by
      cases hh : H0 p with
      | none => exact kN p e hh
      | some o => have := (s.trans s1) _ _ hh; rw [np] at this; cases this
    exact k _ _ _ (s1.trans (same_new np)) (.lst hsys fr upd_same (Dq.sameAll (same_new np) ds vs hds)) (f ds hp)⟩
theorem ev_dct0 (h : P (.dict [])) : Ev K N σ H0 tDNewK P := fun H Q s k p np => k _ _ _ (same_new np) (.dct0 upd_same) h
theorem ev_dct1 {x : Str} {i : Int} (h : P (.dict [(.str x, .int i)])) : Ev K N σ H0 (tDisp [(tC (.str x), tC (.int i))]) P := fun H Q s k p np =>
  ⟨upd_same, [(Sum.inr x, .int i)], rfl, (by show 1 ≤ 15; decide), by
    rw [upd_upd]
    exact k _ _ _ (same_new np) (.dct1 upd_same) h⟩
theorem ev_cat {n m : Nat} (h1 : Ev K N σ H0 t1 (TupP P n)) (h2 : Ev K N σ H0 t2 (TupP P m)) (hz : n + m ≤ 1000) (f : ∀ d, TupP P (n + m) d → P' d) : Ev K N σ H0 (tOp (rCatA K) t1 t2) P' := fun H Q s k =>
  h1 H _ s fun v1 d1 H1 s1 q1 ⟨ds, e1, l1, p1⟩ => h2 H1 _ (s.trans s1) fun v2 d2 H2 s2 q2 ⟨es, e2, l2, p2⟩ => by
    subst e1 e2
    cases q1 with
    | tup hs1 ha1 =>
      cases q2 with
      | tup hs2 ha2 =>
        have ha1' := Dq.sameAll s2 ds _ ha1
        have hcat := ha1'.append ha2
        have hP : ∀ x ∈ ds ++ es, P x := fun x hx => (List.mem_append.mp hx).elim (p1 x) (p2 x)
        have lz := hcat.length
        rw [List.length_append, List.length_append] at lz
        refine ⟨_, _, _, _, rfl, rfl, same_sqT s2 hs1, hs2, by rw [lz]; exact Nat.le_of_lt (small1000 (by omega)), fun e => ?_, fun _ e => ?_, fun _ _ p np => ?_⟩
        · subst e
          cases ha1'
          exact k _ _ _ (s1.trans s2) (.tup hs2 ha2) (f _ ⟨es, rfl, by omega, p2⟩)
        · subst e
          cases ha2
          exact k _ _ _ (s1.trans s2) (.tup (same_sqT s2 hs1) ha1') (f _ ⟨ds, rfl, by omega, p1⟩)
        · exact k _ _ _ ((s1.trans s2).trans (same_new np)) (.tup (.inl (.inl upd_same)) (Dq.sameAll (same_new np) _ _ hcat)) (f _ ⟨ds ++ es, rfl, by rw [List.length_append]; omega, hP⟩)
theorem ev_cut {n : Nat} {tl th : TO} {lo hi : Option Int} (h : Ev K N σ H0 t (TupP P n)) (hl : ∀ (H : Hp) (Q : Option Int → Hp → Prop), Q lo H → tl σ H Q) (hh : ∀ (H : Hp) (Q : Option Int → Hp → Prop), Q hi H → th σ H Q) (f : ∀ d, TupP P n d → P' d) :
    Ev K N σ H0 (tSl (rSlA K) t tl th) P' := fun H Q s k =>
  h H _ s fun v d H1 s1 q ⟨ds, e, l, p⟩ => by
    subst e
    refine hl _ _ (hh _ _ ?_)
    cases q with
    | @tup ad xs _ hs ha =>
      refine ⟨_, _, rfl, hs, fun _ => k _ _ _ s1 (.tup hs ha) (f _ ⟨ds, rfl, l, p⟩), fun _ p' np => k _ _ _ (s1.trans (same_new np)) (.tup (.inl (.inl upd_same)) (Dq.sameAll (same_new np) _ _ ((ha.drop _).take _))) (f _ ⟨_, rfl, ?_, fun x hx => p x (List.mem_of_mem_drop (List.mem_of_mem_take hx))⟩)⟩
      rw [List.length_take, List.length_drop]; omega
theorem ev_rev {n : Nat} (h : Ev K N σ H0 t (TupP P n)) (f : ∀ d, TupP P n d → P' d) : Ev K N σ H0 (tRevT K t) P' := fun H Q s k =>
  h H _ s fun v d H1 s1 q ⟨ds, e, l, p⟩ => by
    subst e
    cases q with
    | tup hs ha => exact ⟨_, _, rfl, hs, fun p' np => k _ _ _ (s1.trans (same_new np)) (.tup (.inl (.inl upd_same)) (Dq.sameAll (same_new np) _ _ ha.reverse)) (f _ ⟨ds.reverse, rfl, by rw [List.length_reverse]; exact l, fun x hx => p x (List.mem_reverse.mp hx)⟩)⟩
theorem ev_list {n : Nat} (kN : ∀ x, N x → H0 x ≠ none) (h : Ev K N σ H0 t (TupP P n)) (f : ∀ d, LstP P n d → P' d) : Ev K N σ H0 (tCB (rListG K) (tCons t tNil)) P' := fun H Q s k =>
  h H _ s fun v d H1 s1 q ⟨ds, e, l, p⟩ => by
    subst e
    cases q with
    | tup hs ha =>
      refine ⟨_, _, rfl, hs, fun p' np hsys => ?_⟩
      have fr : ¬ N p' := fun e => by
        cases hh : H0 p' with
        | none => exact kN p' e hh
        | some o => have := (s.trans s1) _ _ hh; rw [np] at this; cases this
      exact k _ _ _ (s1.trans (same_new np)) (.lst hsys fr upd_same (Dq.sameAll (same_new np) _ _ ha)) (f _ ⟨ds, rfl, l, p⟩)
theorem ev_rep {n : Nat} {k : Int} (h : Ev K N σ H0 t (fun d => TupP P n d ∧ d ≠ .tuple [])) (hk : 2 ≤ k) (hk2 : k ≤ 1000) (hn : n ≤ 1000) (f : ∀ d, TupP P (k.toNat * n) d → P' d) : Ev K N σ H0 (tOp (rRepT K) t (tC (.int k))) P' := fun H Q s kk =>
  h H _ s fun v d H1 s1 q ⟨⟨ds, e, l, p⟩, ne⟩ => by
    subst e
    cases q with
    | @tup ad xs _ hs ha =>
      have hlen := ha.length
      refine ⟨_, k, _, rfl, rfl, hs, fun e => ?_, hk, hk2, by omega, fun p' np => kk _ _ _ (s1.trans (same_new np)) (.tup (.inl (.inl upd_same)) (Dq.sameAll (same_new np) _ _ (ha.rep k.toNat))) (f _ ⟨_, rfl, ?_, fun x hx => ?_⟩)⟩
      · subst e
        cases ha
        exact ne rfl
      · rw [PyProof.Rows.lm_len_rep_flat]
        exact Nat.mul_le_mul_left _ l
      · obtain ⟨l', h1, h2⟩ := List.mem_flatten.mp hx
        rw [List.mem_replicate] at h1
        rw [h1.2] at h2
        exact p x h2
end
end Pr
/-! Buttons, ascending tuples of them and the errors of panels, over data of any kind. -/
namespace Pr
open PySem PySem.Spec PyProof.Rows L2
theorem list_neL (l : Addr) (items : Array Value) (n : Nat) (b : Addr) (items2 : Array Value) (n2 : Nat) (hc0 : (items.size != items2.size) = true) :
    Meets (Builtin.«list.__ne__» ⟨[.ref l, .ref b], []⟩) (fun _ R s => s.heap.get? l = some { cls := .type "list", dict := none, data := .seq items n, slots := #[] } ∧ s.heap.get? b = some { cls := .type "list", dict := none, data := .seq items2 n2, slots := #[] } ∧ R (.ok (.ret (Value.bool (CmpOp.NotEq == CmpOp.NotEq)))) { s with heap := s.heap, toks := s.toks }) :=
  .of_wp fun prog w A R s h => by
    obtain ⟨hp, g, d, tk, os⟩ := s; obtain ⟨hl, hb, h⟩ := h
    have f3 := AutoSeq1.sub_list_list
    wp_walk using AutoSeq1.wpAny_loadPart' hl, AutoSeq1.wpAny_loadPart' hb
    exact ⟨_, rfl, h⟩
section
variable {X : Cx}
/-- xs != [], two lists that stand -/
def rNeE : R2 := fun x y H Q => ∃ l b xs, x = .ref l ∧ y = .ref b ∧ H l = some (.lst xs) ∧ H b = some (.lst []) ∧ Q (.bl (!xs.isEmpty)) H
theorem op_neE (hu : X.A.units + 64 < cLine) : OpR X (compareOp .NotEq) rNeE := by
  intro pins s σ H x y v u Q I rx ry h
  obtain ⟨l, b, xs, rfl, rfl, hl, hb, q⟩ := h
  by_cases e : xs = []
  · subst e
    exact op_neD hu pins s σ H _ _ v u Q I rx ry ⟨.list [], .list [], .lst (.inl (.inl hl)) .nil, .lst (.inl (.inl hb)) .nil, rfl, rfl, q⟩
  · cases rx
    cases ry
    obtain ⟨_, its, n, rv, ho⟩ := I.hok _ _ hl
    obtain ⟨_, its2, n2, rv2, ho2⟩ := I.hok _ _ hb
    cases rv2
    have hlen := rv.length
    have hne : its.toArray.size ≠ 0 := by
      rw [List.size_toArray, ← hlen]
      exact fun z => e (List.eq_nil_of_length_eq_zero z)
    have q' : Q (.bl true) H := by
      have : xs.isEmpty = false := by
        cases xs with
        | nil => exact absurd rfl e
        | cons _ _ => rfl
      rw [this] at q; exact q
    exact richCompare_meets_room (op := .NotEq) ⟨_, ho, rfl⟩ ⟨_, ho2, rfl⟩ PySem.F.slot_list_ne PySem.F.entry_list_ne (PySem.F.args_list_ne_2 _ _) (list_neL l its.toArray n b ([] : List Value).toArray n2 (by simpa using hne))
      ⟨ho, ho2, show Value.bool (CmpOp.NotEq == CmpOp.NotEq) ≠ Value.notImplemented ∧ _ from ⟨(fun z => nomatch z), .bl true, H, I, rfl, q'⟩⟩ (by omega)
end
/-! ### kinds -/
def isB : PyData → Bool
  | .bool _ => true
  | _ => false
theorem isB_kit {K : PySem.W.Frag} (d : PyData) : PySem.W.kitOne K (.type (tyD d)) (.type "bool") = some (isB d) := by
  cases d with
  | none => exact kit_ty (show kitB "NoneType" "bool" = some false by decide +kernel)
  | bool _ => exact kit_ty (show kitB "bool" "bool" = some true by decide +kernel)
  | int _ => exact kit_ty (show kitB "int" "bool" = some false by decide +kernel)
  | str _ => exact kit_ty (show kitB "str" "bool" = some false by decide +kernel)
  | list _ => exact kit_ty (show kitB "list" "bool" = some false by decide +kernel)
  | tuple _ => exact kit_ty (show kitB "tuple" "bool" = some false by decide +kernel)
  | dict _ => exact kit_ty (show kitB "dict" "bool" = some false by decide +kernel)
def isI : PyData → Bool
  | .bool _ => true
  | .int _ => true
  | _ => false
theorem isI_kit {K : PySem.W.Frag} (d : PyData) : PySem.W.kitOne K (.type (tyD d)) (.type "int") = some (isI d) := by
  cases d with
  | none => exact kit_ty (show kitB "NoneType" "int" = some false by decide +kernel)
  | bool _ => exact kit_ty (show kitB "bool" "int" = some true by decide +kernel)
  | int _ => exact kit_ty (show kitB "int" "int" = some true by decide +kernel)
  | str _ => exact kit_ty (show kitB "str" "int" = some false by decide +kernel)
  | list _ => exact kit_ty (show kitB "list" "int" = some false by decide +kernel)
  | tuple _ => exact kit_ty (show kitB "tuple" "int" = some false by decide +kernel)
  | dict _ => exact kit_ty (show kitB "dict" "int" = some false by decide +kernel)
def isT : PyData → Bool
  | .tuple _ => true
  | _ => false
theorem isT_kit {K : PySem.W.Frag} (d : PyData) : PySem.W.kitOne K (.type (tyD d)) (.type "tuple") = some (isT d) := by
  cases d with
  | none => exact kit_ty (show kitB "NoneType" "tuple" = some false by decide +kernel)
  | bool _ => exact kit_ty (show kitB "bool" "tuple" = some false by decide +kernel)
  | int _ => exact kit_ty (show kitB "int" "tuple" = some false by decide +kernel)
  | str _ => exact kit_ty (show kitB "str" "tuple" = some false by decide +kernel)
  | list _ => exact kit_ty (show kitB "list" "tuple" = some false by decide +kernel)
  | tuple _ => exact kit_ty (show kitB "tuple" "tuple" = some true by decide +kernel)
  | dict _ => exact kit_ty (show kitB "dict" "tuple" = some false by decide +kernel)
/-! ### the mathematics -/
def isBtn (n : Int) : PyData → Bool
  | .int i => decide (0 ≤ i) && decide (i < n)
  | _ => false
def ascFrom (n : Int) : Int → List PyData → Bool
  | _, [] => true
  | b, .int i :: r => decide (0 ≤ i) && decide (i < n) && decide (b < i) && ascFrom n i r
  | _, _ :: _ => false
def btnT (n : Int) : PyData → Bool
  | .tuple ds => ascFrom n (-1) ds
  | _ => false
def dErr (k : PyData) (x : Str) : PyData := .tuple [k, .str x]
def hasInt (k : Int) : PyData → Bool
  | .tuple ds => ds.any fun d => match d with | .int i => decide (i = k) | _ => false
  | _ => false
def errFrom (n : Int) : Nat → List PyData → PyData
  | _, [] => .none
  | k, d :: r => if btnT n d then (if hasInt (k : Int) d then dErr (.int (k : Int)) "itself" else errFrom n (k + 1) r) else dErr (.int (k : Int)) "list"
def errD : PyData → PyData
  | .tuple ds => if 1 ≤ ds.length ∧ ds.length ≤ 10 then errFrom (ds.length : Int) 0 ds else dErr .none "panel"
  | _ => dErr .none "panel"
theorem ascFrom_ints {n : Int} : ∀ {b : Int} {ds : List PyData}, ascFrom n b ds = true → ∃ ns : List Int, ds = ns.map PyData.int ∧ ns.Pairwise (· < ·) ∧ ∀ x ∈ ns, b < x ∧ 0 ≤ x ∧ x < n
  | b, [], _ => ⟨[], rfl, List.Pairwise.nil, fun _ h => by cases h⟩
  | b, d :: r, h => by
    cases d with
    | int i =>
      simp only [ascFrom, Bool.and_eq_true, decide_eq_true_eq] at h
      obtain ⟨ns, rfl, h2, h3⟩ := ascFrom_ints h.2
      refine ⟨i :: ns, rfl, List.pairwise_cons.mpr ⟨fun x hx => (h3 x hx).1, h2⟩, fun x hx => ?_⟩
      rcases List.mem_cons.mp hx with rfl | hx
      · exact ⟨h.1.2, h.1.1⟩
      · have := h3 x hx; omega
    | none => simp [ascFrom] at h
    | bool _ => simp [ascFrom] at h
    | str _ => simp [ascFrom] at h
    | list _ => simp [ascFrom] at h
    | tuple _ => simp [ascFrom] at h
    | dict _ => simp [ascFrom] at h
theorem ascFrom_of {n : Int} : ∀ {b : Int} {ns : List Int}, ns.Pairwise (· < ·) → (∀ x ∈ ns, b < x ∧ 0 ≤ x ∧ x < n) → ascFrom n b (ns.map PyData.int) = true
  | b, [], _, _ => rfl
  | b, i :: r, h, h2 => by
    rw [List.pairwise_cons] at h
    have hi := h2 i List.mem_cons_self
    simp only [List.map_cons, ascFrom, Bool.and_eq_true, decide_eq_true_eq]
    exact ⟨⟨⟨hi.2.1, hi.2.2⟩, hi.1⟩, ascFrom_of h.2 fun x hx => ⟨h.1 x hx, (h2 x (List.mem_cons_of_mem _ hx)).2⟩⟩
theorem hasInt_ints {k : Int} (ns : List Int) : hasInt k (.tuple (ns.map PyData.int)) = decide (k ∈ ns) := by
  show (ns.map PyData.int).any _ = _
  rw [List.any_map, Bool.eq_iff_iff, List.any_eq_true, decide_eq_true_eq]
  constructor
  · rintro ⟨x, hx, e⟩
    have e' : x = k := by simpa using e
    rw [← e']; exact hx
  · intro h
    exact ⟨k, h, by simp⟩
theorem dqAll_of_ints {K : PySem.W.Frag} {N : Addr → Prop} {H : Hp} : ∀ {xs : List V} {ns : List Int}, DqAll K N H xs (ns.map PyData.int) → xs = ns.map V.int
  | _, [], h => by cases h; rfl
  | _, x :: r, h => by
    cases h with
    | cons h1 h2 => cases h1; rw [List.map_cons, dqAll_of_ints h2]
theorem errFrom_drop {n : Int} {ds : List PyData} {i : Nat} {d : PyData} (h : ds[i]? = some d) : errFrom n i (ds.drop i) = if btnT n d then (if hasInt (i : Int) d then dErr (.int (i : Int)) "itself" else errFrom n (i + 1) (ds.drop (i + 1))) else dErr (.int (i : Int)) "list" := by
  have hi := (List.getElem?_eq_some_iff.mp h).1
  have : ds.drop i = d :: ds.drop (i + 1) := by
    rw [List.drop_eq_getElem_cons hi, (List.getElem?_eq_some_iff.mp h).2]
  rw [this]; rfl
theorem eqv_intsL : ∀ (ns ms : List Int), PyData.eqvAll (ns.map PyData.int) (ms.map PyData.int) = decide (ns = ms)
  | [], [] => by simp [PyData.eqvAll]
  | [], _ :: _ => by simp [PyData.eqvAll]
  | _ :: _, [] => by simp [PyData.eqvAll]
  | x :: r, y :: t => by
    simp only [List.map_cons, PyData.eqvAll, PyData.eqv, eqv_intsL r t]
    by_cases h : x = y <;> by_cases h2 : r = t <;> simp [h, h2]
theorem canLay_ints : ∀ ns : List Int, PyData.canLayAll0 (ns.map PyData.int) = true ∧ PyData.depthAll (ns.map PyData.int) = 0
  | [] => ⟨by simp [PyData.canLayAll0], by simp [PyData.depthAll]⟩
  | x :: r => by
    obtain ⟨h1, h2⟩ := canLay_ints r
    exact ⟨by simp [PyData.canLayAll0, PyData.canLay0, h1], by simp [PyData.depthAll, PyData.depth, h2]⟩
theorem shaped_ints (ns : List Int) : SeqAt.shaped (.list (ns.map PyData.int)) = true := by
  obtain ⟨h1, h2⟩ := canLay_ints ns
  simp [SeqAt.shaped, PyData.canLay0, PyData.depth, h1, h2]
end Pr
/-! Tuples of tuples of ints compared; slices of tuples; bools. -/
namespace Pr
open PySem PySem.Spec PyProof.Rows L2
theorem shp_ints (ns : List Int) : SeqAt.shaped (dInts ns) = true := by
  obtain ⟨h1, h2⟩ := canLay_ints ns
  simp [dInts, SeqAt.shaped, PyData.canLay0, PyData.depth, h1, h2]
theorem eqv_di (ns ms : List Int) : PyData.eqv (dInts ns) (dInts ms) = decide (ns = ms) := by
  unfold dInts
  simp only [PyData.eqv]
  exact eqv_intsL ns ms
theorem eqv_rowsA : ∀ (a b : List (List Int)), PyData.eqvAll (a.map dInts) (b.map dInts) = decide (a = b)
  | [], [] => by simp [PyData.eqvAll]
  | [], _ :: _ => by simp [PyData.eqvAll]
  | _ :: _, [] => by simp [PyData.eqvAll]
  | x :: r, y :: t => by
    simp only [List.map_cons, PyData.eqvAll, eqv_di, eqv_rowsA r t]
    by_cases h : x = y <;> by_cases h2 : r = t <;> simp [h, h2]
theorem eqv_rowsT (a b : List (List Int)) : PyData.eqv (.tuple (a.map dInts)) (.tuple (b.map dInts)) = decide (a = b) := by
  simp only [PyData.eqv]; exact eqv_rowsA a b
theorem eqv_rowsL (a b : List (List Int)) : PyData.eqv (.list (a.map dInts)) (.list (b.map dInts)) = decide (a = b) := by
  simp only [PyData.eqv]; exact eqv_rowsA a b
theorem lay_rows : ∀ a : List (List Int), PyData.canLayAll0 (a.map dInts) = true ∧ PyData.depthAll (a.map dInts) ≤ 1
  | [] => ⟨by simp [PyData.canLayAll0], by simp [PyData.depthAll]⟩
  | x :: r => by
    obtain ⟨h1, h2⟩ := lay_rows r
    obtain ⟨g1, g2⟩ := canLay_ints x
    refine ⟨by simp [PyData.canLayAll0, dInts, PyData.canLay0, h1, g1], ?_⟩
    simp only [List.map_cons, PyData.depthAll, dInts, PyData.depth, g2]
    omega
theorem shp_rowsT (a : List (List Int)) : SeqAt.shaped (.tuple (a.map dInts)) = true := by
  obtain ⟨h1, h2⟩ := lay_rows a
  simp only [SeqAt.shaped, PyData.canLay0, PyData.depth, h1, Bool.true_and]
  exact decide_eq_true (by omega)
theorem shp_rowsL (a : List (List Int)) : SeqAt.shaped (.list (a.map dInts)) = true := by
  obtain ⟨h1, h2⟩ := lay_rows a
  simp only [SeqAt.shaped, PyData.canLay0, PyData.depth, h1, Bool.true_and]
  exact decide_eq_true (by omega)
def dNone : PyData → Bool
  | .none => true
  | _ => false
section
variable {K : PySem.W.Frag} {σ : L2.St} {H : Hp} {t tk ta tb : TE}
theorem gvi_enumL {α : Type} {δ : α → PyData} {as : List α} (h : Gv K t σ H (.list (as.map δ))) : GvI K Same (iEnum K (tCons t tNil)) σ H (as.zipIdx.map fun x => .tuple [.int (x.2 : Nat), δ x.1]) := fun H1 s Q q => h H1 s _ fun v H2 s2 d2 => by
  obtain ⟨a, xs, rfl, hq, hr⟩ := d2.lstI
  refine ⟨a, xs, rfl, hq, q _ H2 s2 ?_⟩
  have hl : xs.length = as.length := by rw [hr.length, List.length_map]
  rw [List.length_map, List.length_zipIdx, ← hl]
  refine walk_enum.mono (fun h e => e.seq hq) fun i h x h' hi e y => ?_
  obtain ⟨T, x1, x2, rfl, nT, rfl, e1, e2⟩ := y
  cases e1
  have hi' : i < as.length := by omega
  obtain ⟨v, hv, dv⟩ := hr.get i (δ as[i]) (by rw [List.getElem?_map, List.getElem?_eq_getElem hi']; rfl)
  replace e2 : xs[i]? = some x2 := e2
  rw [hv] at e2; cases e2
  have sT : Same h (upd h T (.tup [.int (i : Nat), x2])) := same_new nT
  refine ⟨sT, .tuple [.int (i : Nat), δ as[i]], ?_, .tup (.inl (.inl upd_same)) (.cons (.int _) (.cons ((dv.sm e).sm sT) .nil))⟩
  rw [List.getElem?_map, List.getElem?_zipIdx, List.getElem?_eq_getElem hi']
  simp
theorem set_three (σ : L2.St) (i j l : Nat) (v u x : V) : ((((((((σ.set l none).set j none).set i none).set i (some v)).set j (some u)).set l (some x)).set l none).set j none).set i none = ((σ.set l none).set j none).set i none := by
  refine List.ext_getElem? fun m => ?_
  simp only [List.getElem?_set, List.length_set]
  split <;> split <;> (try split) <;> simp_all
theorem gn_lc3 {wi : TI} {tt : TT} {te : TE} {i j l : Nat} {α : Type} {δ1 δ2 δ3 : α → PyData} {as : List α} {p : α → Bool} {f : α → PyData} (hI : GvI K Same wi σ H (as.map fun a => .tuple [δ1 a, δ2 a, δ3 a]))
    (hb : ∀ a v u x H1, a ∈ as → Same H H1 → Dp K H1 v (δ1 a) → Dp K H1 u (δ2 a) → Dp K H1 x (δ3 a) → GvT tt ((((((σ.set l none).set j none).set i none).set i (some v)).set j (some u)).set l (some x)) H1 (p a) ∧ (p a = true → Gv K te ((((((σ.set l none).set j none).set i none).set i (some v)).set j (some u)).set l (some x)) H1 (f a)))
    (hf : ∀ a ∈ as, lf (f a) = true) (hn : as.length ≤ 100000) (hij : i ≠ j) (hil : i ≠ l) (hjl : j ≠ l) : GvN K (tLc wi (gTup K 3 (gCons (gName i) (gCons (gName j) (gCons (gName l) gNil)))) tt te [i, j, l]) σ H ((as.filter p).map f) := by
  intro H0 s0 Q q
  refine hI H0 s0 _ fun J H1 s1 w D nD => ?_
  rw [List.length_map] at w
  refine lc_it w (LcP K H1 D fun k => ((as.take k).filter p).map f) ⟨fun b o hb e => by rw [upd_ne hb]; exact e, [], upd_same, .nil, Nat.zero_le _⟩ (fun k H2 _ hP b o e => hP.1 b o (ne_of_none e nD) e) (fun k x H2 H3 hk hP hY => ?_) (fun H2 hP => ?_)
  · obtain ⟨s2, acc, eD, hacc, la⟩ := hP
    obtain ⟨s3, d, hd, dx⟩ := hY
    rw [List.getElem?_map, List.getElem?_eq_getElem hk] at hd
    cases hd
    have sH : Same H H3 := (s0.trans s1).trans fun b o e => s3 _ _ (s2 b o (ne_of_none e nD) e)
    obtain ⟨T, xs, rfl, hT, hr⟩ := dx.tupI
    obtain ⟨v, u, x, rfl, dv, du, dx3⟩ := dpAll3 hr
    obtain ⟨g1, g2⟩ := hb as[k] v u x H3 (List.getElem_mem _) sH dv du dx3
    refine ⟨T, [v, u, x], rfl, hT, rfl, v, [u, x], rfl, u, [x], rfl, x, [], rfl, rfl, ?_, g1.at fun H4 s4 => ?_⟩
    · exact set_three _ _ _ _ _ _ _
    cases hp : p as[k] with
    | true =>
      rw [if_pos rfl]
      refine (g2 hp).sm s4 |>.at fun y H5 s5 dy => ⟨acc, s5 _ _ (s4 _ _ (s3 _ _ eD)), small5 (by omega), ?_⟩
      exact lcP_yes s2 ((s3.trans s4).trans s5) eD hacc la dy (by rw [fil_take hk, hp]; rfl) (lf_fil hf _)
    | false =>
      rw [if_neg Bool.false_ne_true]
      exact lcP_no s2 (s3.trans s4) eD hacc la (by rw [fil_take hk, hp]; exact List.append_nil _)
  · obtain ⟨s2, acc, eD, hacc, la⟩ := hP
    replace hacc : DpAll K H2 acc (((as.take as.length).filter p).map f) := hacc
    rw [List.take_length] at hacc
    exact q _ _ H2 (s1.trans fun b o e => s2 b o (ne_of_none e nD) e) (s1.free nD) eD hacc
theorem gn_repL1 {d : PyData} {k : Nat} (ha : GvL K ta σ H [d]) (hb : Gv K tb σ H (.int (k : Int))) (hk : k ≤ 1000) : GvN K (tOp rRep ta tb) σ H (List.replicate k d) := fun H1 s Q q =>
  ha H1 s _ fun a vs H2 s2 e dv => hb H2 (s.trans s2) _ fun y H3 s3 dy => by
    cases dy
    obtain ⟨v, rfl, dv1⟩ := dpAll1 dv
    refine ⟨a, (k : Int), [v], rfl, rfl, s3 _ _ e, by omega, by omega, by rw [Int.toNat_natCast]; show 1 * k ≤ _; exact Nat.le_of_lt (small1000 (by omega)), fun p np => ?_⟩
    have sp := same_new (o := .lst (List.replicate ((k : Nat) : Int).toNat [v]).flatten) np
    refine q p (List.replicate k v) _ ((s2.trans s3).trans sp) ((s2.trans s3).free np) ?_ ?_
    · rw [upd_same, Int.toNat_natCast, rep_flatA]
    · have : ∀ m, DpAll K (upd H3 p (.lst (List.replicate ((k : Nat) : Int).toNat [v]).flatten)) (List.replicate m v) (List.replicate m d) := fun m => by
        induction m with
        | zero => exact .nil
        | succ m ih => exact .cons ((dv1.sm s3).sm sp) ih
      exact this k
theorem gv_cutToG {ds : List PyData} {k : Nat} (h : Gv K t σ H (.tuple ds)) (hk : Gv K tk σ H (.int (k : Int))) (hl : k ≤ ds.length) : Gv K (tSl (rSlS K) t tNoPart (tPart tk)) σ H (.tuple (ds.take k)) := fun H1 s Q q => h H1 s _ fun v H2 s2 dv => hk H2 (s.trans s2) _ fun vk H3 s3 dk => by
  cases dk
  obtain ⟨a, xs, rfl, ha, hr⟩ := dv.tupI
  refine ⟨(k : Int), rfl, a, _, rfl, same_sqT s3 ha, fun p H4 s4 hp => q _ H4 ((s2.trans s3).trans s4) (.tup hp ?_)⟩
  have := cut_dp ((hr.sm s3).sm s4) none (some (k : Int))
  rw [HT.sIx_none, HT.sIx_nat, Nat.min_eq_left hl, List.drop_zero, Nat.sub_zero] at this
  exact this
theorem gv_cutFromG {ds : List PyData} {k : Nat} (h : Gv K t σ H (.tuple ds)) (hk : Gv K tk σ H (.int (k : Int))) (hl : k ≤ ds.length) : Gv K (tSl (rSlS K) t (tPart tk) tNoPart) σ H (.tuple (ds.drop k)) := fun H1 s Q q => h H1 s _ fun v H2 s2 dv => hk H2 (s.trans s2) _ fun vk H3 s3 dk => by
  cases dk
  obtain ⟨a, xs, rfl, ha, hr⟩ := dv.tupI
  refine ⟨(k : Int), rfl, a, _, rfl, same_sqT s3 ha, fun p H4 s4 hp => q _ H4 ((s2.trans s3).trans s4) (.tup hp ?_)⟩
  have := cut_dp ((hr.sm s3).sm s4) (some (k : Int)) none
  rw [HT.sIx_none, HT.sIx_nat, Nat.min_eq_left hl, List.take_of_length_le (by rw [List.length_drop]; omega)] at this
  exact this
theorem gv_intB {b : Bool} {r : List V → Hp → VK → Prop} (hr : r = fun xs H Q => (∃ i, xs = [.int i] ∧ Q (.int i) H) ∨ ∃ k, xs = [.bl k] ∧ Q (.int (if k then 1 else 0)) H) (h : Gv K t σ H (.bool b)) : Gv K (tCB r (tCons t tNil)) σ H (.int (if b then 1 else 0)) := by
  subst hr
  refine gv_cb (gva_cons h gva_nil) fun vs H1 Q s hd q => ?_
  obtain ⟨v, rfl, hv⟩ := dpAll1 hd
  cases hv
  exact .inr ⟨b, rfl, q _ _ (Same.refl _) (.int _)⟩
theorem gv_eqI1 {l m : List Int} (ha : Gv K ta σ H (dInts l)) (hb : Gv K tb σ H (dInts m)) : Gv K (tOp (rEqD K) ta tb) σ H (.bool (decide (l = m))) := (gv_eqD ha hb (shp_ints _) (shp_ints _)).to (by rw [eqv_di])
theorem gv_neI1 {l m : List Int} (ha : Gv K ta σ H (dInts l)) (hb : Gv K tb σ H (dInts m)) : Gv K (tOp (rNeD K) ta tb) σ H (.bool (!decide (l = m))) := (gv_neD ha hb (shp_ints _) (shp_ints _)).to (by rw [eqv_di])
theorem gv_neI2 {l m : List (List Int)} (ha : Gv K ta σ H (.tuple (l.map dInts))) (hb : Gv K tb σ H (.tuple (m.map dInts))) : Gv K (tOp (rNeD K) ta tb) σ H (.bool (!decide (l = m))) := (gv_neD ha hb (shp_rowsT _) (shp_rowsT _)).to (by rw [eqv_rowsT])
theorem gv_neI3 {l m : List (List Int)} (ha : Gv K ta σ H (.list (l.map dInts))) (hb : Gv K tb σ H (.list (m.map dInts))) : Gv K (tOp (rNeD K) ta tb) σ H (.bool (!decide (l = m))) := (gv_neD ha hb (shp_rowsL _) (shp_rowsL _)).to (by rw [eqv_rowsL])
theorem cutTo (l : List Int) (m : Nat) : cutV (l.map V.int) none (some (m : Int)) = (l.take m).map V.int := by
  unfold cutV
  rw [List.length_map, HT.sIx_none, HT.sIx_nat, List.drop_zero, Nat.sub_zero, ← List.map_take]
  congr 1
  by_cases h : m ≤ l.length
  · rw [Nat.min_eq_left h]
  · rw [Nat.min_eq_right (by omega), List.take_of_length_le (Nat.le_refl _), List.take_of_length_le (by omega)]
theorem cutFrom (l : List Int) (m : Nat) : cutV (l.map V.int) (some (m : Int)) none = (l.drop m).map V.int := by
  unfold cutV
  rw [List.length_map, HT.sIx_nat, HT.sIx_none, ← List.map_drop]
  by_cases h : m ≤ l.length
  · rw [Nat.min_eq_left h]
    exact List.take_of_length_le (by rw [List.length_map, List.length_drop]; omega)
  · rw [Nat.min_eq_right (by omega), List.drop_eq_nil_of_le (Nat.le_refl _), List.drop_eq_nil_of_le (show l.length ≤ m by omega)]
    simp
theorem gv_cutTo {l : List Int} {k : Nat} (h : Gv K t σ H (dInts l)) (hk : Gv K tk σ H (.int (k : Int))) : Gv K (tSl (rSlS K) t tNoPart (tPart tk)) σ H (dInts (l.take k)) := fun H1 s Q q => h H1 s _ fun v H2 s2 dv => hk H2 (s.trans s2) _ fun vk H3 s3 dk => by
  cases dk
  obtain ⟨a, rfl, ha⟩ := dv.intsI
  refine ⟨(k : Int), rfl, a, _, rfl, same_sqT s3 ha, fun p H4 s4 hp => q _ H4 ((s2.trans s3).trans s4) ?_⟩
  rw [cutTo] at hp
  exact dp_ints hp
theorem gv_cutFrom {l : List Int} {k : Nat} (h : Gv K t σ H (dInts l)) (hk : Gv K tk σ H (.int (k : Int))) : Gv K (tSl (rSlS K) t (tPart tk) tNoPart) σ H (dInts (l.drop k)) := fun H1 s Q q => h H1 s _ fun v H2 s2 dv => hk H2 (s.trans s2) _ fun vk H3 s3 dk => by
  cases dk
  obtain ⟨a, rfl, ha⟩ := dv.intsI
  refine ⟨(k : Int), rfl, a, _, rfl, same_sqT s3 ha, fun p H4 s4 hp => q _ H4 ((s2.trans s3).trans s4) ?_⟩
  rw [cutFrom] at hp
  exact dp_ints hp
theorem gv_cat1 {l m : List Int} (ha : Gv K ta σ H (dInts l)) (hb : Gv K tb σ H (dInts m)) (hn : l.length + m.length ≤ 100000) : Gv K (tOp (rCatS K) ta tb) σ H (dInts (l ++ m)) := (gv_catT ha hb (by rw [List.length_map, List.length_map]; exact hn)).to (by unfold dInts; rw [List.map_append])
theorem gv_notT {b : Bool} (h : Gv K t σ H (.bool b)) : Gv K (tOp rNotT t (tC (.bl true))) σ H (.bool (!b)) := gv_op2 h gv_bl fun x y H1 Q s hx hy q => by
  cases hx; cases hy
  exact ⟨b, rfl, rfl, q _ _ (Same.refl _) (.bl _)⟩
theorem gv_isN {d : PyData} (h : Gv K t σ H d) {r : R2} (hr : r = (fun x y H Q => y = .non ∧ Q (.bl (decide (x = .non))) H)) : Gv K (tOp r t (tC .non)) σ H (.bool (dNone d)) := by
  subst hr
  refine gv_op2 h gv_non fun x y H1 Q s hx hy q => ?_
  cases hy
  refine ⟨rfl, q _ _ (Same.refl _) ?_⟩
  have : decide (x = V.non) = dNone d := by
    cases hx <;> simp [dNone]
  rw [this]; exact .bl _
theorem gv_notN {d : PyData} (h : Gv K t σ H d) {r : R2} (hr : r = (fun x y H Q => y = .non ∧ Q (.bl (!decide (x = .non))) H)) : Gv K (tOp r t (tC .non)) σ H (.bool (!dNone d)) := by
  subst hr
  refine gv_op2 h gv_non fun x y H1 Q s hx hy q => ?_
  cases hy
  refine ⟨rfl, q _ _ (Same.refl _) ?_⟩
  have : decide (x = V.non) = dNone d := by
    cases hx <;> simp [dNone]
  rw [this]; exact .bl _
end
end Pr
/-! list(zip(t, u)) of two tuples of one length. -/
namespace Pr
open PySem PySem.W PySem.Calls PyProof.Rows PyProof.V PySem.Spec RZ
theorem zip_no_len : typeLookup (.type "zip") "__len__" = pure none := by rw [typeLookup_type, builtinLookup_eq_fast]; kernel_rfl
theorem zip_no_hint : typeLookup (.type "zip") "__length_hint__" = pure none := by rw [typeLookup_type, builtinLookup_eq_fast]; kernel_rfl
section
variable {prog : Program} {w : World} {A : Around} {E : Value → Shared → Prop} {s : Shared}
theorem zipTH_next_item {z TI TO T i1 i2 l1 l2 : Addr} {f : Bool} {oT : Obj} {k1 k2 : Nat} {xs ys : Array Value} {x y : Value} {Q : Value → Shared → Prop} (D : ZipApart z TI TO i1 i2 l1 l2)
    (hz : IsZipHeld s.heap z TI TO T f) (hT : s.heap.get? T = some oT) (hTI : IsPair s.heap TI (.ref i1) (.ref i2))
    (h1 : s.heap.IsTupleIter i1 l1 k1) (h2 : s.heap.IsTupleIter i2 l2 k2) (hl1 : s.heap.IsTuple l1 xs) (hl2 : s.heap.IsTuple l2 ys) (hx : xs[k1]? = some x) (hy : ys[k2]? = some y)
    (hQ : ∀ h', IsZipHeld h' z TI TO T true → h'.IsTupleIter i1 l1 (k1 + 1) → h'.IsTupleIter i2 l2 (k2 + 1) → IsPair h' s.heap.objs.size x y → h'.objs.size = s.heap.objs.size + 1 →
      (∀ c o, c ≠ z → c ≠ i1 → c ≠ i2 → s.heap.get? c = some o → h'.get? c = some o) → Q (.ref s.heap.objs.size) { s with heap := h' }) :
    wpAny (model prog w) A (Builtin.«zip.__next__» ⟨[.ref z], []⟩) (fun fin s' => ∃ v, fin = .done (.ret v) ∧ Q v s') E s := by
  show wpAny _ _ (field (.ref z) 2 >>= _) _ _ _
  refine wpAny_bind (wpAny_field hz rfl (x := .bool false) rfl ?_)
  show wpAny _ _ (field (.ref z) 3 >>= _) _ _ _
  refine wpAny_bind (wpAny_field hz rfl (x := .ref TI) rfl ?_)
  refine wpAny_bind (wpAny_seqItems hTI rfl ?_)
  show wpAny _ _ (Builtin.SmallTypes.ownedTupleIsFree (.ref z) >>= _) _ _ _
  refine wpAny_bind (wpAny_tupleHeld_zip hz hT fun h₁ hz₁ hs₁ => ?_)
  simp only [Bool.false_eq_true, if_false]
  refine wpAny_bind ?_
  rw [← Array.forIn_toList]
  simp only [List.forIn_cons, List.forIn_nil]
  refine wpAny_bind (wpAny_bind (wpAny_holding ?_))
  show wpAny _ _ (Builtin.SmallTypes.nextOf (.ref i1) >>= _) _ _ _
  refine wpAny_bind (nextOf_tuple_item (s := { s with heap := h₁ }) (h1.extBut hs₁.extBut D.i1z) (hl1.extBut hs₁.extBut D.l1z) hx fun h₂ h1₂ hs₂ => wpAny_pure ?_)
  refine wpAny_pure ?_
  refine wpAny_bind (wpAny_bind (wpAny_holding ?_))
  show wpAny _ _ (Builtin.SmallTypes.nextOf (.ref i2) >>= _) _ _ _
  refine wpAny_bind (nextOf_tuple_item (s := { s with heap := h₂ }) ((h2.extBut hs₁.extBut D.i2z).extBut hs₂.extBut D.i12.symm) ((hl2.extBut hs₁.extBut D.l2z).extBut hs₂.extBut D.l2i1) hy fun h₃ h2₃ hs₃ => wpAny_pure ?_)
  refine wpAny_pure (wpAny_pure ?_)
  show wpAny _ _ (newTuple [x, y] >>= _) _ _ _
  refine wpAny_bind (wpAny_newTuple ?_)
  have hsz : h₃.objs.size = s.heap.objs.size := by rw [hs₃.1, hs₂.1, hs₁.1]
  have hz₃ : IsZipHeld h₃ z TI TO T true := hs₃.extBut _ _ D.i2z.symm (hs₂.extBut _ _ D.i1z.symm hz₁)
  have hk : ∀ c o, c ≠ z → c ≠ i1 → c ≠ i2 → s.heap.get? c = some o → h₃.get? c = some o := fun c o c1 c2 c3 e => hs₃.extBut _ _ c3 (hs₂.extBut _ _ c2 (hs₁.extBut _ _ c1 e))
  have h1₃ : h₃.IsTupleIter i1 l1 (k1 + 1) := h1₂.extBut hs₃.extBut D.i12
  refine wpAny_pure ⟨_, rfl, ?_⟩
  show Q (.ref h₃.objs.size) _
  have hp : IsPair (h₃.push { cls := .type "tuple", data := .seq #[x, y] }) h₃.objs.size x y := Heap.get?_push_size _ rfl
  have hz4 : (h₃.push { cls := .type "tuple", data := .seq #[x, y] }).objs.size = h₃.objs.size + 1 := Heap.size_push ..
  rw [hsz] at hp hz4 ⊢
  exact hQ _ (Heap.get?_push_of_some _ hz₃) (h1₃.at fun o e => Heap.get?_push_of_some _ e) (h2₃.at fun o e => Heap.get?_push_of_some _ e) hp hz4 fun c o c1 c2 c3 e => Heap.get?_push_of_some _ (hk c o c1 c2 c3 e)
theorem zipTH_next_end {z TI TO T i1 i2 l1 l2 : Addr} {f : Bool} {oT : Obj} {k1 k2 : Nat} {xs ys : Array Value} {Q : Fin → Shared → Prop} (hh : A.handled = none) (D : ZipApart z TI TO i1 i2 l1 l2)
    (hz : IsZipHeld s.heap z TI TO T f) (hT : s.heap.get? T = some oT) (hTI : IsPair s.heap TI (.ref i1) (.ref i2))
    (h1 : s.heap.IsTupleIter i1 l1 k1) (hl1 : s.heap.IsTuple l1 xs) (hx : xs[k1]? = none)
    (hE : ∀ h' e, (∀ c o, c ≠ z → c ≠ i1 → c ≠ i2 → s.heap.get? c = some o → h'.get? c = some o) → (∃ o, h'.get? e = some o ∧ o.cls = .type "StopIteration") → E (.ref e) { s with heap := h' }) :
    wpAny (model prog w) A (Builtin.«zip.__next__» ⟨[.ref z], []⟩) Q E s := by
  show wpAny _ _ (field (.ref z) 2 >>= _) _ _ _
  refine wpAny_bind (wpAny_field hz rfl (x := .bool false) rfl ?_)
  show wpAny _ _ (field (.ref z) 3 >>= _) _ _ _
  refine wpAny_bind (wpAny_field hz rfl (x := .ref TI) rfl ?_)
  refine wpAny_bind (wpAny_seqItems hTI rfl ?_)
  show wpAny _ _ (Builtin.SmallTypes.ownedTupleIsFree (.ref z) >>= _) _ _ _
  refine wpAny_bind (wpAny_tupleHeld_zip hz hT fun h₁ hz₁ hs₁ => ?_)
  simp only [Bool.false_eq_true, if_false]
  refine wpAny_bind ?_
  rw [← Array.forIn_toList]
  simp only [List.forIn_cons, List.forIn_nil]
  refine wpAny_bind (wpAny_bind (wpAny_holding ?_))
  show wpAny _ _ (Builtin.SmallTypes.nextOf (.ref i1) >>= _) _ _ _
  refine wpAny_bind (nextOf_tuple_end (s := { s with heap := h₁ }) hh (h1.extBut hs₁.extBut D.i1z) (hl1.extBut hs₁.extBut D.l1z) hx fun h₂ e hs₂ he => ?_)
  exact hE h₂ e (fun c o c1 c2 _ x => hs₂ _ _ c2 (hs₁.extBut _ _ c1 x)) he
theorem pyNext_zipTH_item {z TI TO T i1 i2 l1 l2 : Addr} {f : Bool} {oT : Obj} {k1 k2 : Nat} {xs ys : Array Value} {x y : Value} {Q : Option Value → Shared → Prop} (D : ZipApart z TI TO i1 i2 l1 l2)
    (hz : IsZipHeld s.heap z TI TO T f) (hT : s.heap.get? T = some oT) (hTI : IsPair s.heap TI (.ref i1) (.ref i2))
    (h1 : s.heap.IsTupleIter i1 l1 k1) (h2 : s.heap.IsTupleIter i2 l2 k2) (hl1 : s.heap.IsTuple l1 xs) (hl2 : s.heap.IsTuple l2 ys) (hx : xs[k1]? = some x) (hy : ys[k2]? = some y)
    (hQ : ∀ h', IsZipHeld h' z TI TO T true → h'.IsTupleIter i1 l1 (k1 + 1) → h'.IsTupleIter i2 l2 (k2 + 1) → IsPair h' s.heap.objs.size x y → h'.objs.size = s.heap.objs.size + 1 →
      (∀ c o, c ≠ z → c ≠ i1 → c ≠ i2 → s.heap.get? c = some o → h'.get? c = some o) → Q (some (.ref s.heap.objs.size)) { s with heap := h' }) :
    wpAny (model prog w) A (pyNext (.ref z)) Q E s := by
  have hTy : s.TypeIs (.ref z) "zip" := ⟨_, hz, rfl⟩
  unfold pyNext
  exact wpAny_bind (wpAny_attempt (wpAny_callSpecial?_slot (name := Str.ofString "__next__") hTy PySem.F.slot_zip_next
    (wpAny_call_entry PySem.F.slot_zip_next hTy PySem.F.entry_zip_next
      (zipTH_next_item D hz hT hTI h1 h2 hl1 hl2 hx hy fun h' a1 a3 a4 a5 a6 a7 => wpAny_pure (hQ h' a1 a3 a4 a5 a6 a7)) (PySem.F.args_zip_next_1 _))))
theorem pyNext_zipTH_end {z TI TO T i1 i2 l1 l2 : Addr} {f : Bool} {oT : Obj} {k1 k2 : Nat} {xs ys : Array Value} {Q : Option Value → Shared → Prop} (hh : A.handled = none) (D : ZipApart z TI TO i1 i2 l1 l2)
    (hz : IsZipHeld s.heap z TI TO T f) (hT : s.heap.get? T = some oT) (hTI : IsPair s.heap TI (.ref i1) (.ref i2))
    (h1 : s.heap.IsTupleIter i1 l1 k1) (hl1 : s.heap.IsTuple l1 xs) (hx : xs[k1]? = none)
    (hQ : ∀ h', (∀ c o, c ≠ z → c ≠ i1 → c ≠ i2 → s.heap.get? c = some o → h'.get? c = some o) → Q none { s with heap := h' }) : wpAny (model prog w) A (pyNext (.ref z)) Q E s := by
  have hTy : s.TypeIs (.ref z) "zip" := ⟨_, hz, rfl⟩
  unfold pyNext
  refine wpAny_bind (wpAny_attempt (wpAny_callSpecial?_slot (name := Str.ofString "__next__") hTy PySem.F.slot_zip_next
    (wpAny_call_entry PySem.F.slot_zip_next hTy PySem.F.entry_zip_next (zipTH_next_end (k2 := k2) (ys := ys) hh D hz hT hTI h1 hl1 hx fun h' e hk he => ?_) (PySem.F.args_zip_next_1 _))))
  obtain ⟨o, ho, hc⟩ := he
  refine wpAny_bind (wpAny_isInstance (T := "StopIteration") (b := true) ⟨o, ho, hc⟩ isSubtype_stop ?_)
  exact wpAny_pure (hQ _ hk)
/-- how the zip stands after i turns, S a list besides -/
def ZSt (h : Heap) (z TI TO i1 i2 l1 l2 S : Addr) (i : Nat) : Prop :=
  IsPair h TI (.ref i1) (.ref i2) ∧ h.IsTupleIter i1 l1 i ∧ h.IsTupleIter i2 l2 i ∧
  ((i = 0 ∧ IsZip h z TI TO .none ∧ ∃ a b, IsPair h TO a b) ∨ ∃ T f oT, IsZipHeld h z TI TO T f ∧ h.get? T = some oT ∧ T ≠ S ∧ T ≠ z ∧ T ≠ i1 ∧ T ≠ i2)
structure OffS (S z TI TO i1 i2 l1 l2 : Addr) : Prop where
  z : z ≠ S
  TI : TI ≠ S
  TO : TO ≠ S
  i1 : i1 ≠ S
  i2 : i2 ≠ S
  l1 : l1 ≠ S
  l2 : l2 ≠ S
theorem ZSt.keep {h h' : Heap} {z TI TO i1 i2 l1 l2 S : Addr} {i : Nat} (x : ZSt h z TI TO i1 i2 l1 l2 S i) (F : OffS S z TI TO i1 i2 l1 l2) (hk : ∀ b o, b ≠ S → h.get? b = some o → h'.get? b = some o) : ZSt h' z TI TO i1 i2 l1 l2 S i := by
  obtain ⟨a1, a2, a3, a4⟩ := x
  refine ⟨hk _ _ F.TI a1, a2.at fun o e => hk _ o F.i1 e, a3.at fun o e => hk _ o F.i2 e, ?_⟩
  rcases a4 with ⟨e, b1, a, b, b2⟩ | ⟨T, f, oT, b1, b2, b3⟩
  · exact .inl ⟨e, hk _ _ F.z b1, a, b, hk _ _ F.TO b2⟩
  · exact .inr ⟨T, f, oT, hk _ _ F.z b1, hk _ _ b3.1 b2, b3⟩
theorem zst_item {z TI TO i1 i2 l1 l2 S : Addr} {i : Nat} {xs ys : Array Value} {x y : Value} {Q : Option Value → Shared → Prop} (D : ZipApart z TI TO i1 i2 l1 l2) (hst : ZSt s.heap z TI TO i1 i2 l1 l2 S i) (hS : S < s.heap.objs.size)
    (hl1 : s.heap.IsTuple l1 xs) (hl2 : s.heap.IsTuple l2 ys) (hx : xs[i]? = some x) (hy : ys[i]? = some y)
    (hQ : ∀ h', ZSt h' z TI TO i1 i2 l1 l2 S (i + 1) → IsPair h' s.heap.objs.size x y → h'.objs.size = s.heap.objs.size + 1 →
      (∀ c o, c ≠ z → c ≠ TO → c ≠ i1 → c ≠ i2 → s.heap.get? c = some o → h'.get? c = some o) → Q (some (.ref s.heap.objs.size)) { s with heap := h' }) :
    wpAny (model prog w) A (pyNext (.ref z)) Q E s := by
  obtain ⟨a1, a2, a3, a4⟩ := hst
  have t1 : i1 < s.heap.objs.size := by obtain ⟨_, e, _⟩ := id a2; exact Heap.lt_size e
  have t2 : i2 < s.heap.objs.size := by obtain ⟨_, e, _⟩ := id a3; exact Heap.lt_size e
  rcases a4 with ⟨rfl, b1, a, b, b2⟩ | ⟨T, f, oT, b1, b2, n1, n2, n3, n4⟩
  · refine pyNext_zipT_item D b1 a1 b2 a2 a3 hl1 hl2 hx hy fun h' c1 c2 c3 c4 c5 c6 c7 => hQ h' ⟨c7 _ _ D.TIz D.TITO D.TIi1 D.TIi2 a1, c3, c4, .inr ⟨_, false, _, c1, c5, Nat.ne_of_gt hS, Nat.ne_of_gt (Heap.lt_size b1), Nat.ne_of_gt t1, Nat.ne_of_gt t2⟩⟩ c5 c6 c7
  · refine pyNext_zipTH_item D b1 b2 a1 a2 a3 hl1 hl2 hx hy fun h' c1 c3 c4 c5 c6 c7 => hQ h' ⟨c7 _ _ D.TIz D.TIi1 D.TIi2 a1, c3, c4, .inr ⟨T, true, oT, c1, c7 _ _ n2 n3 n4 b2, n1, n2, n3, n4⟩⟩ c5 c6 fun c o d1 _ d3 d4 e => c7 c o d1 d3 d4 e
theorem zst_end {z TI TO i1 i2 l1 l2 S : Addr} {i : Nat} {xs ys : Array Value} {Q : Option Value → Shared → Prop} (hh : A.handled = none) (D : ZipApart z TI TO i1 i2 l1 l2) (hst : ZSt s.heap z TI TO i1 i2 l1 l2 S i)
    (hl1 : s.heap.IsTuple l1 xs) (hl2 : s.heap.IsTuple l2 ys) (hx : xs[i]? = none)
    (hQ : ∀ h', (∀ c o, c ≠ z → c ≠ TO → c ≠ i1 → c ≠ i2 → s.heap.get? c = some o → h'.get? c = some o) → Q none { s with heap := h' }) : wpAny (model prog w) A (pyNext (.ref z)) Q E s := by
  obtain ⟨a1, a2, a3, a4⟩ := hst
  rcases a4 with ⟨rfl, b1, a, b, b2⟩ | ⟨T, f, oT, b1, b2, n1, n2, n3, n4⟩
  · exact pyNext_zipT_end hh D b1 a1 b2 a2 a3 hl1 hl2 (.inl hx) hQ
  · exact pyNext_zipTH_end (k2 := i) (ys := ys) hh D b1 b2 a1 a2 hl1 hx fun h' c => hQ h' fun c' o d1 _ d3 d4 e => c c' o d1 d3 d4 e
structure ZG (xs ys : Array Value) (lo : Addr) (h : Heap) (as : List Addr) : Prop where
  rise : as.Pairwise (· < ·)
  above : ∀ a ∈ as, lo < a
  pairs : ∀ (j : Nat) (a : Addr), as[j]? = some a → ∃ x y, xs[j]? = some x ∧ ys[j]? = some y ∧ IsPair h a x y
theorem ZG.there {xs ys : Array Value} {lo : Addr} {h : Heap} {as : List Addr} (g : ZG xs ys lo h as) {a : Addr} (ha : a ∈ as) : a < h.objs.size := by
  obtain ⟨j, hj⟩ := List.mem_iff_getElem?.mp ha
  obtain ⟨_, _, _, _, e⟩ := g.pairs j a hj
  exact Heap.lt_size e
end
section
variable {prog : Program} {w : World} {A : Around} {s : Shared} {R : Result → Shared → Prop}
theorem zip_loop {S z TI TO i1 i2 l1 l2 : Addr} {xs ys : Array Value} {n : Nat} (hh : A.handled = none) (D : ZipApart z TI TO i1 i2 l1 l2) (F : OffS S z TI TO i1 i2 l1 l2) (lo : ∀ b, b = z ∨ b = TO ∨ b = i1 ∨ b = i2 → b < S) (hxn : xs.size = n) (hyn : ys.size = n) (hn : n ≤ sizeLine) (res : Value) {h₁ : Heap}
    (hR : ∀ h' tk acc c as, (∀ b o, b ≠ S → b ≠ z → b ≠ TO → b ≠ i1 → b ≠ i2 → h₁.get? b = some o → h'.get? b = some o) → h'.get? S = some { cls := .type "list", dict := none, data := .seq acc c, slots := #[] } → as.length = n → ZG xs ys S h' as →
      acc.toList = as.map Value.ref → R (.ok (.ret res)) { s with heap := h', toks := tk }) :
    ∀ (k i : Nat) (h : Heap) (tk c : Nat) (acc : Array Value) (as : List Addr), n - i = k → i ≤ n → ZSt h z TI TO i1 i2 l1 l2 S i → h.IsTuple l1 xs → h.IsTuple l2 ys → (∀ b o, b ≠ S → b ≠ z → b ≠ TO → b ≠ i1 → b ≠ i2 → h₁.get? b = some o → h.get? b = some o) →
      h.get? S = some { cls := .type "list", dict := none, data := .seq acc c, slots := #[] } → acc.toList = as.map Value.ref → as.length = i → ZG xs ys S h as →
      codeAny (model prog w) A (.builtin "list.extend.loop" ⟨[.ref S, .ref z, res], []⟩) R { s with heap := h, toks := tk } := by
  have off : ∀ a, S < a → a ≠ z ∧ a ≠ TO ∧ a ≠ i1 ∧ a ≠ i2 := fun a ha => ⟨fun e => Nat.lt_asymm ha (lo a (.inl e)), fun e => Nat.lt_asymm ha (lo a (.inr (.inl e))), fun e => Nat.lt_asymm ha (lo a (.inr (.inr (.inl e)))), fun e => Nat.lt_asymm ha (lo a (.inr (.inr (.inr e))))⟩
  intro k
  induction k with
  | zero =>
    intro i h tk c acc as hk hi hst hl1 hl2 hkeep hS hacc hal hG
    have hin : i = n := by omega
    refine codeAny_builtin PySem.F.entry_extend_loop ?_
    rw [Around.under_plainId PySem.F.plain_extend_loop _]
    show wpAny _ A.in1 (pyNext (.ref z) >>= _) _ _ _
    refine wpAny_bind (zst_end (s := { s with heap := h, toks := tk }) (A := A.in1) hh D hst hl1 hl2 (by rw [Array.getElem?_eq_none_iff]; omega) fun h' he => ?_)
    refine wpAny_pure (hR h' tk acc c as (fun b o h1 h2 h3 h4 h5 e => he b o h2 h3 h4 h5 (hkeep b o h1 h2 h3 h4 h5 e)) (he S _ (Ne.symm F.z) (Ne.symm F.TO) (Ne.symm F.i1) (Ne.symm F.i2) hS) (by omega) ⟨hG.rise, hG.above, fun j a hj => ?_⟩ hacc)
    obtain ⟨x, y, e1, e2, e3⟩ := hG.pairs j a hj
    obtain ⟨o1, o2, o3, o4⟩ := off a (hG.above a (List.mem_of_getElem? hj))
    exact ⟨x, y, e1, e2, he a _ o1 o2 o3 o4 e3⟩
  | succ k ih =>
    intro i h tk c acc as hk hi hst hl1 hl2 hkeep hS hacc hal hG
    have hlt : i < n := by omega
    obtain ⟨x, hx⟩ : ∃ p, xs[i]? = some p := ⟨xs[i], Array.getElem?_eq_getElem (by omega)⟩
    obtain ⟨y, hy⟩ : ∃ p, ys[i]? = some p := ⟨ys[i], Array.getElem?_eq_getElem (by omega)⟩
    have hsz : acc.size = i := by rw [← Array.length_toList, hacc, List.length_map, hal]
    refine codeAny_builtin PySem.F.entry_extend_loop ?_
    rw [Around.under_plainId PySem.F.plain_extend_loop _]
    show wpAny _ A.in1 (pyNext (.ref z) >>= _) _ _ _
    refine wpAny_bind (zst_item (s := { s with heap := h, toks := tk }) (S := S) D hst (Heap.lt_size hS) hl1 hl2 hx hy fun h' hst' ht hz hkp => ?_)
    dsimp only at ht hz hkp ⊢
    have hS' := hkp S _ (Ne.symm F.z) (Ne.symm F.TO) (Ne.symm F.i1) (Ne.symm F.i2) hS
    have up : ∀ b o, b ≠ S → h'.get? b = some o → (h'.update S (Obj.mapSeq (·.push (Value.ref h.objs.size)))).get? b = some o := fun b o hb e => (Heap.get?_update_other _ _ (Ne.symm hb)).trans e
    have hSl : S < h.objs.size := Heap.lt_size hS
    have kT1 : ∀ o, h.get? l1 = some o → (h'.update S (Obj.mapSeq (·.push (Value.ref h.objs.size)))).get? l1 = some o := fun o e => up l1 o F.l1 (hkp l1 o D.l1z D.l1TO D.l1i1 D.l1i2 e)
    have kT2 : ∀ o, h.get? l2 = some o → (h'.update S (Obj.mapSeq (·.push (Value.ref h.objs.size)))).get? l2 = some o := fun o e => up l2 o F.l2 (hkp l2 o D.l2z D.l2TO D.l2i1 D.l2i2 e)
    have hl1' : (h'.update S (Obj.mapSeq (·.push (Value.ref h.objs.size)))).IsTuple l1 xs := by
      obtain ⟨o, ho, q⟩ := hl1; exact ⟨o, kT1 o ho, q⟩
    have hl2' : (h'.update S (Obj.mapSeq (·.push (Value.ref h.objs.size)))).IsTuple l2 ys := by
      obtain ⟨o, ho, q⟩ := hl2; exact ⟨o, kT2 o ho, q⟩
    show wpAny _ A.in1 (updateSeq S (·.push (Value.ref h.objs.size)) >>= _) _ _ _
    refine wpAny_bind ?_
    refine wpAny_updateSeq hS' rfl (wpAny_pure ⟨plainId_quiet PySem.F.plain_extend_loop _, ih (i + 1) _ tk _ (acc.push (Value.ref h.objs.size)) (as ++ [h.objs.size]) (by omega) hlt (hst'.keep F up) hl1' hl2'
      (fun b o h1 h2 h3 h4 h5 e => up b o h1 (hkp b o h2 h3 h4 h5 (hkeep b o h1 h2 h3 h4 h5 e))) (Heap.get?_update_self _ hS' rfl) (by rw [Array.toList_push, hacc, List.map_append]; rfl) (by rw [List.length_append, hal]; rfl) ⟨?_, ?_, ?_⟩⟩) (by rw [hsz]; omega) (by show (acc.push (Value.ref h.objs.size)).size ≤ sizeLine + 1; rw [Array.size_push, hsz]; omega)
    · refine List.pairwise_append.mpr ⟨hG.rise, List.pairwise_singleton _ _, fun a ha b hb => ?_⟩
      rw [List.mem_singleton.mp hb]
      exact hG.there ha
    · intro a ha
      rcases List.mem_append.mp ha with ha | ha
      · exact hG.above a ha
      · rw [List.mem_singleton.mp ha]; exact hSl
    · intro j a hj
      rcases Nat.lt_or_ge j as.length with hjl | hjl
      · rw [List.getElem?_append_left hjl] at hj
        obtain ⟨x', y', e1, e2, e3⟩ := hG.pairs j a hj
        have hab := hG.above a (List.mem_of_getElem? hj)
        obtain ⟨o1, o2, o3, o4⟩ := off a hab
        exact ⟨x', y', e1, e2, up a _ (Nat.ne_of_gt hab) (hkp a _ o1 o2 o3 o4 e3)⟩
      · rw [List.getElem?_append_right hjl] at hj
        have hj0 : j - as.length = 0 := by
          have := (List.getElem?_eq_some_iff.mp hj).1
          simp at this; omega
        rw [hj0] at hj
        cases hj
        have : j = i := by omega
        subst this
        exact ⟨x, y, hx, hy, up _ _ (Nat.ne_of_gt hSl) ht⟩
end
section
variable {prog : Program} {w : World} {A : Around} {E : Value → Shared → Prop} {s : Shared}
theorem call_list_zip {z TI TO i1 i2 l1 l2 : Addr} {xs ys : Array Value} {n : Nat} {Q : Value → Shared → Prop} (hh : A.handled = none) (D : ZipApart z TI TO i1 i2 l1 l2) (hxn : xs.size = n) (hyn : ys.size = n) (hn : n ≤ sizeLine)
    (hz : IsZip s.heap z TI TO .none) (hTI : IsPair s.heap TI (.ref i1) (.ref i2)) {a b : Value} (hTO : IsPair s.heap TO a b) (h1 : s.heap.IsTupleIter i1 l1 0) (h2 : s.heap.IsTupleIter i2 l2 0) (hl1 : s.heap.IsTuple l1 xs) (hl2 : s.heap.IsTuple l2 ys)
    (hQ : ∀ h' tk acc c as, (∀ b o, b ≠ z → b ≠ TO → b ≠ i1 → b ≠ i2 → s.heap.get? b = some o → h'.get? b = some o) → h'.get? s.heap.objs.size = some { cls := .type "list", dict := none, data := .seq acc c, slots := #[] } → as.length = n → ZG xs ys s.heap.objs.size h' as →
      acc.toList = as.map Value.ref → Q (.ref s.heap.objs.size) { s with heap := h', toks := tk }) :
    wpAny (model prog w) A (call (.type "list") [.ref z]) Q E s := by
  have li1 : i1 < s.heap.objs.size := by obtain ⟨_, e, _⟩ := id h1; exact Heap.lt_size e
  have li2 : i2 < s.heap.objs.size := by obtain ⟨_, e, _⟩ := id h2; exact Heap.lt_size e
  have ll1 : l1 < s.heap.objs.size := by obtain ⟨_, e, _⟩ := id hl1; exact Heap.lt_size e
  have ll2 : l2 < s.heap.objs.size := by obtain ⟨_, e, _⟩ := id hl2; exact Heap.lt_size e
  have lz := Heap.lt_size hz
  have lTI := Heap.lt_size hTI
  have lTO := Heap.lt_size hTO
  have F : OffS s.heap.objs.size z TI TO i1 i2 l1 l2 := ⟨Nat.ne_of_lt lz, Nat.ne_of_lt lTI, Nat.ne_of_lt lTO, Nat.ne_of_lt li1, Nat.ne_of_lt li2, Nat.ne_of_lt ll1, Nat.ne_of_lt ll2⟩
  refine callType_codes (Q₁ := fun obj s₁ => obj = .ref s.heap.objs.size ∧ s₁ = { s with heap := s.heap.push { cls := .type "list", data := .seq #[] } }) PySem.F.called_list (PySem.F.typeCall_list_1 _) PySem.F.entry_list_init
    (code_list_new _ ⟨rfl, rfl⟩) fun obj s₁ h₁ => ?_
  obtain ⟨rfl, rfl⟩ := h₁
  have hS : (s.heap.push { cls := .type "list", data := .seq #[] }).get? s.heap.objs.size = some { cls := .type "list", data := .seq #[] } := Heap.get?_push_size _ rfl
  refine ⟨⟨_, hS, rfl⟩, PySem.F.args_list_init_2 _ _, ?_⟩
  show wpAny _ A.in1.in1 (do let old ← Builtin.List.listItems (.ref s.heap.objs.size); Builtin.List.listUpdate (.ref s.heap.objs.size) (fun _ => #[]); letGo old.toList.reverse; Builtin.List.listExtendWith (.ref s.heap.objs.size) (.ref z) .none) _ _ _
  refine wpAny_bind ?_
  unfold Builtin.List.listItems
  refine wpAny_bind (wpAny_seqItems hS rfl (wpAny_pure ?_))
  show wpAny _ A.in1.in1 (updateSeq s.heap.objs.size (fun _ => #[]) >>= fun _ => letGo (#[] : Array Value).toList.reverse >>= fun _ => Builtin.List.listExtendWith (.ref s.heap.objs.size) (.ref z) .none) _ _ _
  refine wpAny_bind (wpAny_updateSeq hS rfl ?_)
  have hS2 := Heap.get?_update_self (Obj.mapSeq (fun _ => (#[] : Array Value))) hS rfl
  refine wpAny_bind (wpAny_letGo ?_)
  unfold Builtin.List.listExtendWith
  have up : ∀ (h : Heap) (f : Obj → Obj), (∀ b o, s.heap.get? b = some o → h.get? b = some o) → ∀ b o, s.heap.get? b = some o → (h.update s.heap.objs.size f).get? b = some o := fun h f q b o e =>
    (Heap.get?_update_other _ _ (Ne.symm (Nat.ne_of_lt (Heap.lt_size e)))).trans (q b o e)
  have k1 : ∀ b o, s.heap.get? b = some o → (s.heap.push { cls := .type "list", data := .seq #[] }).get? b = some o := fun b o e => Heap.get?_push_of_some _ e
  have k2 := up _ (Obj.mapSeq (fun _ => (#[] : Array Value))) k1
  have gty : ∀ {h : Heap}, (∀ b o, s.heap.get? b = some o → h.get? b = some o) → Shared.TypeIs { s with heap := h } (.ref z) "zip" := fun {h} q => ⟨_, q _ _ hz, rfl⟩
  refine wpAny_bind (wpAny_typeOf (gty k2) ?_)
  have e1 : Builtin.List.listSameRef (.ref s.heap.objs.size) (.ref z) = false := by simp [Builtin.List.listSameRef, Ne.symm F.z]
  have e2 : (Value.type "zip" == Value.type "list") = false := by decide
  have e3 : (Value.type "zip" == Value.type "tuple") = false := by decide
  simp only [e1, e2, e3, Bool.or_false, Bool.false_eq_true, if_false]
  refine wpAny_bind (wpAny_pyIter_zip (s := { s with heap := _ }) (k2 _ _ hz) ?_)
  refine wpAny_bind (wpAny_holding ?_)
  unfold Builtin.List.listLengthHint
  refine wpAny_bind (wpAny_specialOf (gty k2) zip_no_len ?_)
  show wpAny _ A.in1.in1 (specialOf (Value.ref z) (Str.ofString "__length_hint__") >>= _) _ _ _
  refine wpAny_bind (wpAny_specialOf (gty k2) zip_no_hint ?_)
  refine wpAny_pure ?_
  show wpAny _ A.in1.in1 (rule "list.extend.makes-room" >>= fun _ => Builtin.List.listTouch (.ref s.heap.objs.size) >>= fun _ =>
    again (.builtin "list.extend.loop" ⟨[.ref s.heap.objs.size, .ref z, .none], []⟩)) _ _ _
  refine wpAny_bind (wpAny_rule ?_)
  refine wpAny_bind ?_
  show wpAny _ A.in1.in1 (updateSeq s.heap.objs.size (·.push .none) >>= fun _ => updateSeq s.heap.objs.size (·.pop)) _ _ _
  refine wpAny_bind (wpAny_updateSeq hS2 rfl ?_)
  have hS3 := Heap.get?_update_self (Obj.mapSeq (·.push Value.none)) hS2 rfl
  refine wpAny_updateSeq (hz := by seq_fits) hS3 rfl ?_
  have hS4 := Heap.get?_update_self (Obj.mapSeq (·.pop)) hS3 rfl
  have k4 := up _ (Obj.mapSeq (·.pop)) (up _ (Obj.mapSeq (·.push Value.none)) k2)
  refine wpAny_pure ⟨plainId_quiet PySem.F.plain_extend_loop _, ?_⟩
  refine zip_loop (s := s) (A := A.in1) (n := n) (xs := xs) (ys := ys) (h₁ := s.heap) hh D F (fun b hb => by rcases hb with rfl | rfl | rfl | rfl <;> assumption) hxn hyn hn .none
    (fun h' tk acc c as hk hS' hl hG hacc => ⟨rfl, hQ h' tk acc c as (fun b o n1 n2 n3 n4 e => hk b o (Nat.ne_of_lt (Heap.lt_size e)) n1 n2 n3 n4 e) hS' hl hG hacc⟩)
    n 0 _ _ _ #[] [] (Nat.sub_zero _) (Nat.zero_le _) ⟨k4 _ _ hTI, h1.at fun o e => k4 _ o e, h2.at fun o e => k4 _ o e, .inl ⟨rfl, k4 _ _ hz, a, b, k4 _ _ hTO⟩⟩ (by obtain ⟨o, ho, q⟩ := hl1; exact ⟨o, k4 _ _ ho, q⟩) (by obtain ⟨o, ho, q⟩ := hl2; exact ⟨o, k4 _ _ ho, q⟩) (fun b o _ _ _ _ _ e => k4 b o e) hS4 rfl rfl
    ⟨List.Pairwise.nil, (fun _ ha => nomatch ha), (fun j a hj => by simp at hj)⟩
end

section
open L2 LiI
/-- the pairs tracked at their addresses -/
def putP : Hp → List Addr → List (V × V) → Hp
  | H, a :: as, p :: kvs => putP (upd H a (.tup [p.1, p.2])) as kvs
  | H, _, _ => H
theorem putP_off {b : Addr} : ∀ (as : List Addr) (kvs : List (V × V)) (H : Hp), b ∉ as → putP H as kvs b = H b
  | [], _, _, _ => rfl
  | _ :: _, [], _, _ => rfl
  | a :: as, p :: kvs, H, h => by
    show putP (upd H a (.tup [p.1, p.2])) as kvs b = H b
    rw [putP_off as kvs _ (fun z => h (List.mem_cons_of_mem _ z)), upd_ne (fun z => h (by rw [z]; exact List.mem_cons_self))]
theorem putP_at : ∀ (as : List Addr) (kvs : List (V × V)) (H : Hp), as.length = kvs.length → as.Nodup → Paired (fun (t : Addr) (p : V × V) => putP H as kvs t = some (.tup [p.1, p.2])) as kvs
  | [], [], _, _, _ => .nil
  | [], _ :: _, _, h, _ => by cases h
  | _ :: _, [], _, h, _ => by cases h
  | a :: as, p :: kvs, H, h, hn => by
    have hn' := List.nodup_cons.mp hn
    have ih := putP_at as kvs (upd H a (.tup [p.1, p.2])) (Nat.succ.inj h) hn'.2
    refine .cons ?_ ih
    show putP (upd H a (.tup [p.1, p.2])) as kvs a = some (.tup [p.1, p.2])
    rw [putP_off as kvs _ hn'.1, upd_same]
def rListZip (K : PySem.W.Frag) : List V → Hp → VK → Prop := fun vs H Q => ∃ (a b : Addr) (xs ys : List V), vs = [.ref a, .ref b] ∧ SqT K H a xs ∧ SqT K H b ys ∧ xs.length = ys.length ∧ xs.length ≤ 1000 ∧
  ∀ (H' : Hp) (p : Addr) (ts : List Addr), (∀ b o, H b = some o → H' b = some o) → H p = none → (∀ t ∈ ts, H t = none) → p ∉ ts → H' p = some (.lst (ts.map V.ref)) → Paired (fun (t : Addr) (q : V × V) => H' t = some (.tup [q.1, q.2])) ts (xs.zip ys) → Q (.ref p) H'
def tListZip (K : PySem.W.Frag) (ta : TA) : TE := fun σ H Q => ta σ H fun vs H1 => rListZip K vs H1 Q
variable {X : Cx} {e e2 : Expr} {ta : TA} {p p2 pos cpos : Pos}
theorem zip_laid {pins : List (Addr × Obj)} {σ : L2.St} {H : Hp} {s : Shared} {h' : Heap} {tk : Nat} {xs ys : List V} {us ws : List Value} {acc : Array Value} {c : Nat} {as : List Addr} (I : Inv X pins σ H s) (hl2 : xs.length = ys.length) (hz : xs.length ≤ 1000) (r1 : Vals xs us) (r2 : Vals ys ws)
    (hk : ∀ b o, s.heap.get? b = some o → h'.get? b = some o) {S : Addr} (hSs : s.heap.objs.size ≤ S) (hS : h'.get? S = some { cls := .type "list", dict := none, data := .seq acc c, slots := #[] }) (hl : as.length = xs.length) (hG : ZG us.toArray ws.toArray S h' as) (hacc : acc.toList = as.map Value.ref) :
    ∃ H' : Hp, (∀ b o, H b = some o → H' b = some o) ∧ H S = none ∧ (∀ t ∈ as, H t = none) ∧ S ∉ as ∧ H' S = some (.lst (as.map V.ref)) ∧ Paired (fun (t : Addr) (q : V × V) => H' t = some (.tup [q.1, q.2])) as (xs.zip ys) ∧ Inv X pins σ H' { s with heap := h', toks := tk } := by
  have lk : (xs.zip ys).length = xs.length := by rw [List.length_zip, hl2, Nat.min_self]
  have hSn : S ∉ as := fun z => Nat.lt_irrefl _ (hG.above _ z)
  have nd : as.Nodup := List.Pairwise.imp (fun {a b} (h : a < b) => Nat.ne_of_lt h) hG.rise
  have new : ∀ t ∈ as, H t = none := fun t ht => I.hok.fresh (Nat.le_trans hSs (Nat.le_of_lt (hG.above t ht)))
  have newS : H S = none := I.hok.fresh hSs
  have atP := putP_at as (xs.zip ys) (upd H S (.lst (as.map V.ref))) (by omega) nd
  have off : ∀ b, b ∉ as → b ≠ S → putP (upd H S (.lst (as.map V.ref))) as (xs.zip ys) b = H b := fun b h1 h2 => by rw [putP_off as _ _ h1, upd_ne h2]
  have low : ∀ b o, s.heap.get? b = some o → b ∉ as ∧ b ≠ S := fun b o e => ⟨fun z => absurd (Heap.lt_size e) (Nat.not_lt.mpr (Nat.le_trans hSs (Nat.le_of_lt (hG.above b z)))), Nat.ne_of_lt (Nat.lt_of_lt_of_le (Heap.lt_size e) hSs)⟩
  have kp : ∀ b u, H b = some u → (putP (upd H S (.lst (as.map V.ref))) as (xs.zip ys)) b = some u := fun b u e => by
    rw [off b (fun z => by rw [new b z] at e; cases e) (fun z => by rw [z, newS] at e; cases e)]
    exact e
  have eS : putP (upd H S (.lst (as.map V.ref))) as (xs.zip ys) S = some (.lst (as.map V.ref)) := by rw [putP_off as _ _ hSn, upd_same]
  refine ⟨putP (upd H S (.lst (as.map V.ref))) as (xs.zip ys), kp, newS, new, hSn, eS, atP, ?_⟩
  refine I.call' (ch := []) rfl ⟨fun b o q _ _ _ => hk b o q, fun b o q _ _ _ => ⟨o.slots, hk b o q⟩, fun b o q n _ => ?_, fun b o q _ => ⟨o, hk b o q⟩, fun b xs q => kp b _ q, fun b o u q => kp b _ q, fun b ps q => ⟨#[], by rw [kp b _ q]; simp⟩⟩ (fun b u q => ?_) I.bare fun b z => by simp at z
  · obtain ⟨z1, z2⟩ := low b o q
    rw [off b z1 z2]
    exact n
  · by_cases hb : b ∈ as
    · obtain ⟨j, pk, e1, e2, e3⟩ := paired_ix atP hb
      rw [e3] at q
      cases q
      obtain ⟨x, y, f1, f2, f3⟩ := hG.pairs j b e1
      obtain ⟨g1, g2⟩ := List.getElem?_zip_eq_some.mp e2
      obtain ⟨u, hu, ru⟩ := r1.get g1
      obtain ⟨u2, hu2, ru2⟩ := r2.get g2
      have q1 : us[j]? = some x := by simpa using f1
      have q2 : ws[j]? = some y := by simpa using f2
      rw [hu] at q1; cases q1
      rw [hu2] at q2; cases q2
      exact ⟨by show 2 ≤ sizeLine; decide, [x, y], .cons ru (.cons ru2 .nil), ⟨_, f3, rfl, _, rfl⟩⟩
    · by_cases hb2 : b = S
      · rw [hb2] at q ⊢
        rw [eS] at q
        cases q
        refine ⟨by rw [List.length_map]; exact Nat.le_of_lt (small1000 (by omega)), acc.toList, c, by rw [hacc]; exact LiI.vals_refs as, ?_⟩
        rw [Array.toArray_toList]
        exact hS
      · rw [off b hb hb2] at q
        exact (I.hok b u q).stay (fun d v _ y => hk d v y) (fun d y => kp d _ y) fun d xs y => kp d _ y
/-- list(zip(e, e2)) of tuples of one length -/
theorem pe_listZip (hc : X.calm = true) (ha : PA X [e, e2] ta) (hg : Gl X "list") (hm : X.mg "list" = none) (hv : bootBuiltins "list" = some (.type "list")) (hg2 : Gl X "zip") (hm2 : X.mg "zip" = none)
    (hs : starEach [.Call (.Name "zip" p2) [e, e2] [] cpos] X.env = (false, eval (.Call (.Name "zip" p2) [e, e2] [] cpos) X.env) :: starEach [] X.env := by rfl)
    (hs2 : starEach [e, e2] X.env = (false, eval e X.env) :: starEach [e2] X.env := by rfl) (hpl : (backTo cpos (starEach [e2] X.env)).any (·.1) = false := by rfl) :
    PE X (.Call (.Name "list" p) [.Call (.Name "zip" p2) [e, e2] [] cpos] [] pos) (tListZip X.K ta) := by
  refine ⟨fun pins s σ H Q I hq => ?_⟩
  refine wpAny_Call_Name_kw (ld_blt I hg hm hv ?_)
  refine PyProof.Rows.callWith_type1 ?_ hs rfl
  rw [hs]
  show wpAny _ _ (spliced ((false, eval (.Call (.Name "zip" p2) [e, e2] [] cpos) X.env) :: backTo pos (starEach [] X.env))) _ _ s
  refine Calls.spliced_cons ?_
  refine Call_ (ld_blt I hg2 hm2 PyProof.Rows.boot_zip (PyProof.Rows.callWith_type1 (thn (ha.run cpos pins s σ H _ I hq) fun us s1 ⟨vs, H1, I1, r1, q1⟩ => ?_) hs2 hpl))
  obtain ⟨a, b, xs, ys, ex, hqx, hqy, hl, hn, q⟩ := q1
  subst ex
  cases r1 with
  | cons r rr =>
    cases rr with
    | cons r' rr =>
      cases rr
      cases r
      cases r'
      obtain ⟨its, rv, p1, _⟩ := I1.tuple hqx
      obtain ⟨its2, rv2, p2, _⟩ := I1.tuple hqy
      obtain ⟨o1, ho1, _⟩ := id p1
      obtain ⟨o2, ho2, _⟩ := id p2
      refine call_zipT (show s1.heap.IsTuple a its.toArray from p1) (show s1.heap.IsTuple b its2.toArray from p2) fun h' hz hTI hTO h1 h2 hsz hk => ?_
      have I2 : Inv X pins σ H1 { s1 with heap := h' } := I1.kept (t' := s1.toks) hk
      refine Calls.spliced_nil ?_
      have lx := rv.length
      have ly := rv2.length
      have t1 : h'.IsTuple a its.toArray := by obtain ⟨o, ho, z⟩ := id p1; exact ⟨o, hk _ _ ho, z⟩
      have t2 : h'.IsTuple b its2.toArray := by obtain ⟨o, ho, z⟩ := id p2; exact ⟨o, hk _ _ ho, z⟩
      refine call_list_zip (s := { s1 with heap := h' }) (n := xs.length) (I1.ok.hd hc) (PySem.W.ktu_apart s1.heap.objs.size a b (Heap.lt_size ho1) (Heap.lt_size ho2)) (by simp; omega) (by simp; omega) (Nat.le_of_lt (small1000 (by omega))) hz hTI hTO h1 h2 t1 t2 fun h'' tk acc c as hk2 hS hl2 hG hacc => ?_
      have hbig : s1.heap.objs.size ≤ h'.objs.size := by omega
      have kk : ∀ b o, s1.heap.get? b = some o → h''.get? b = some o := fun b o e => by
        have hb := Heap.lt_size e
        have n4 : b ≠ s1.heap.objs.size + 4 := Nat.ne_of_lt (Nat.lt_of_lt_of_le hb (Nat.le_add_right _ _))
        have n3 : b ≠ s1.heap.objs.size + 3 := Nat.ne_of_lt (Nat.lt_of_lt_of_le hb (Nat.le_add_right _ _))
        have n1 : b ≠ s1.heap.objs.size + 1 := Nat.ne_of_lt (Nat.lt_of_lt_of_le hb (Nat.le_add_right _ _))
        exact hk2 b o n4 n3 (Nat.ne_of_lt hb) n1 (hk b o e)
      obtain ⟨H', k1, k2, k3, k4, k5, k6, J⟩ := zip_laid (tk := tk) (S := h'.objs.size) I1 hl hn rv rv2 kk hbig hS hl2 hG hacc
      exact ⟨.ref _, H', J, rfl, q H' _ as k1 k2 k3 k4 k5 k6⟩
end
section
open L2 LiI
variable {K : PySem.W.Frag} {σ : L2.St} {H : Hp} {ta : TA}
/-- what list(zip(t, u)) gives -/
theorem gn_listZip {ds es : List PyData} (h : GvA K ta σ H [.tuple ds, .tuple es]) (hl : ds.length = es.length) (hn : ds.length ≤ 1000) : GvN K (tListZip K ta) σ H ((ds.zip es).map fun x => .tuple [x.1, x.2]) := fun H1 s Q q => h H1 s _ fun vs H2 s2 dv => by
  obtain ⟨v, u, rfl, dv1, du⟩ := dpAll2 dv
  obtain ⟨a, xs, rfl, ha, hr⟩ := dv1.tupI
  obtain ⟨b, ys, rfl, hb, hr2⟩ := du.tupI
  refine ⟨a, b, xs, ys, rfl, ha, hb, by rw [hr.length, hr2.length]; exact hl, by rw [hr.length]; exact hn, fun H' p ts k1 k2 k3 k4 k5 k6 => ?_⟩
  refine q p _ H' (s2.trans k1) (s2.free k2) k5 ?_
  have lt : ts.length = (ds.zip es).length := by rw [k6.length, List.length_zip, List.length_zip, hr.length, hr2.length]
  refine DpAll.of_get (by rw [List.length_map, List.length_map, lt]) fun i v d e1 e2 => ?_
  rw [List.getElem?_map] at e1 e2
  cases et : ts[i]? with
  | none => rw [et] at e1; cases e1
  | some t =>
    cases ez : (ds.zip es)[i]? with
    | none => rw [ez] at e2; cases e2
    | some z =>
      rw [et] at e1; rw [ez] at e2
      cases e1; cases e2
      obtain ⟨p2, f1, f2⟩ := LiI.paired_get k6 et
      obtain ⟨g1, g2⟩ := List.getElem?_zip_eq_some.mp f1
      obtain ⟨z1, z2⟩ := List.getElem?_zip_eq_some.mp ez
      obtain ⟨x1, w1, w2⟩ := hr.get i _ z1
      obtain ⟨x2, w3, w4⟩ := hr2.get i _ z2
      rw [g1] at w1; cases w1
      rw [g2] at w3; cases w3
      exact .tup (.inl (.inl f2)) (.cons (w2.sm k1) (.cons (w4.sm k1) .nil))
end
end Pr
/-! Small data of any kind. -/
namespace Pr
open PySem PySem.Spec PyProof.Rows L2
def tlen : PyData → Bool
  | .tuple es => decide (es.length ≤ 60)
  | _ => true
def smlB : PyData → Bool
  | .tuple ds => ds.all tlen
  | _ => true
def lowB (d : PyData) : Bool := d.showable && decide (d.depth ≤ 3) && decide (d.shown.length ≤ 60) && tlen d && smlB d
/-- a small thing: at most three deep, at most sixty signs -/
def Low (d : PyData) : Prop := lowB d = true
theorem Low.shq {d : PyData} (h : Low d) : Shq 3 60 d := by
  simp only [Low, lowB, Bool.and_eq_true, decide_eq_true_eq] at h
  exact ⟨h.1.1.1.1, h.1.1.1.2, h.1.1.2⟩
theorem Low.len {d : PyData} (h : Low d) : tlen d = true := by
  simp only [Low, lowB, Bool.and_eq_true, decide_eq_true_eq] at h
  exact h.1.2
theorem Low.sml {d : PyData} (h : Low d) : smlB d = true := by
  simp only [Low, lowB, Bool.and_eq_true, decide_eq_true_eq] at h
  exact h.2
theorem low_int {i : Int} (h0 : 0 ≤ i) (h : i < 100) : Low (.int i) := by
  have s := Shw.int (k := 2) h0 (by decide) (by decide) h
  simp only [Low, lowB, Bool.and_eq_true, decide_eq_true_eq]
  exact ⟨⟨⟨⟨s.sh, Nat.le_trans s.dp (by decide)⟩, Nat.le_trans s.ln (by decide)⟩, rfl⟩, rfl⟩
theorem low_bool (b : Bool) : Low (.bool b) := by cases b <;> (show lowB _ = true; decide +kernel)
/-- what may stand in a panel's place: a small thing, or a tuple or list of at most sixty small ones -/
def Mid (d : PyData) : Prop := Shq 4 4000 d ∧ tlen d = true
theorem Low.mid {d : PyData} (h : Low d) : Mid d := ⟨h.shq.mono (by decide) (by decide), h.len⟩
theorem tup_mid {d : PyData} (h : TupP Low 60 d) : Mid d := by
  obtain ⟨ds, rfl, l, p⟩ := h
  exact ⟨(Shq.tuple (fun x hx => (p x hx).shq) l).mono (by decide) (by decide), decide_eq_true l⟩
theorem lst_mid {d : PyData} (h : LstP Low 60 d) : Mid d := by
  obtain ⟨ds, rfl, l, p⟩ := h
  exact ⟨(Shq.list (fun x hx => (p x hx).shq) l).mono (by decide) (by decide), rfl⟩
/-- values of the laws -/
def Top (d : PyData) : Prop := Shq 5 2000000 d ∧ smlB d = true
theorem tup_top {d : PyData} (h : TupP Mid 200 d) : Top d := by
  obtain ⟨ds, rfl, l, p⟩ := h
  exact ⟨(Shq.tuple (fun x hx => (p x hx).1) l).mono (by decide) (by decide), List.all_eq_true.mpr fun x hx => (p x hx).2⟩
theorem lst_top {d : PyData} (h : LstP Mid 200 d) : Top d := by
  obtain ⟨ds, rfl, l, p⟩ := h
  exact ⟨(Shq.list (fun x hx => (p x hx).1) l).mono (by decide) (by decide), rfl⟩
theorem Low.top {d : PyData} (h : Low d) : Top d := ⟨h.shq.mono (by decide) (by decide), h.sml⟩
theorem smlB_spec {d : PyData} (h : smlB d = true) : ∀ ds, d = .tuple ds → ∀ x ∈ ds, ∀ es, x = .tuple es → es.length ≤ 60 := by
  intro ds e x hx es e'
  subst e e'
  exact of_decide_eq_true (List.all_eq_true.mp h _ hx)
end Pr
/-! Caught errors of own classes, with fields: isinstance; and more of data. -/
namespace Pr
open PySem PySem.Spec PyProof.Rows L2
/-- the exception that the suite holds, of the class D, its dict d -/
def HeldX (D : Addr) (cls : Value) (d : Option Addr) (H : Hp) : Prop := cls = .ref D ∧ ∃ dd fs, d = some dd ∧ H dd = some (.xd fs)
def rIsX (K : PySem.W.Frag) (D a : Addr) (cls : Value) (d : Option Addr) : List V → Hp → VK → Prop := fun xs H Q => HeldX D cls d H ∧ ∃ (c : V) (u : Value) (b : Bool), xs = [.ref a, c] ∧ ClsV c u ∧ PySem.W.kitOne K (.ref D) u = some b ∧ Q (.bl b) H
def rIsXT (K : PySem.W.Frag) (D a : Addr) (cls : Value) (d : Option Addr) : List V → Hp → VK → Prop := fun xs H Q => HeldX D cls d H ∧ ∃ (tp : Addr) (cs : List V) (us : List Value) (b : Bool), xs = [.ref a, .ref tp] ∧ H tp = some (.tup cs) ∧ Paired ClsV cs us ∧ PySem.W.kitAny K (.ref D) us = some b ∧ Q (.bl b) H
section
variable {X : Cx} {a D : Addr} {oe : Obj} {cls : Value} {d : Option Addr} {pn pins : List (Addr × Obj)} {s : Shared} {σ : L2.St} {H : Hp}
theorem held_inst (hz : Zc cls d oe) (hf : ∃ vs, oe.data = .fields vs) (I : Inv (X.suite a ((a, oe) :: pn)) pins σ H s) (h : HeldX D cls d H) : ∃ od : Obj, PySem.W.InstAt s.heap a oe D (some od) := by
  obtain ⟨rfl, dd, fs, rfl, ea⟩ := h
  obtain ⟨ha, _⟩ := I.pin (a, oe) (List.mem_append_left _ List.mem_cons_self)
  obtain ⟨vs, hd⟩ := hf
  have hx : ObjOk X.prog X.w H s.heap dd (.xd fs) := I.hok dd _ ea
  obtain ⟨mA, hns, hr⟩ := hx
  obtain ⟨od, ho, hl⟩ := lookIn_ns hns
  exact ⟨od, ha, hz.1, by unfold PySem.W.notCls; rw [hd] <;> rfl, by rw [hz.2]; exact ho⟩
theorem kitx_of_exc {x : Addr} {ox : Obj} {od : Option Obj} {K : PySem.W.Frag} (C : ExcC K D) : PySem.W.KitX K (.ref x) (.ref D) (fun h => PySem.W.InstAt h x ox D od) :=
  PySem.W.kitx_exc (by obtain ⟨cd, hc, _⟩ := PySem.W.any_some C.hd; rw [hc]; rfl) C.hg C.hk C.hs C.ha C.hn C.ht C.hm
theorem call_isX (C : ExcC X.K D) (hz : Zc cls d oe) (hf : ∃ vs, oe.data = .fields vs) : CallR (X.suite a ((a, oe) :: pn)) (.builtin "isinstance") (rIsX X.K D a cls d) := by
  intro pins s σ H xs us Q I r h
  obtain ⟨hh, c, u, b, rfl, k, e, q⟩ := h
  obtain ⟨u1, u2, rfl, r1, r2⟩ := vals2 r
  cases (show u1 = Value.ref a from r1)
  have e2 := k.eq r2
  subst e2
  obtain ⟨od, J⟩ := held_inst hz hf I hh
  exact PySem.W.kia_one (kitx_of_exc C) I.kIn J e (fun z => nomatch z) fun tk => ⟨.bl b, H, I.tok tk, rfl, q⟩
theorem call_isXT (C : ExcC X.K D) (hz : Zc cls d oe) (hf : ∃ vs, oe.data = .fields vs) : CallR (X.suite a ((a, oe) :: pn)) (.builtin "isinstance") (rIsXT X.K D a cls d) := by
  intro pins s σ H xs us Q I r h
  obtain ⟨hh, tp, cs, ws, b, rfl, hT, k, e, q⟩ := h
  obtain ⟨u1, u2, rfl, r1, r2⟩ := vals2 r
  cases (show u1 = Value.ref a from r1)
  cases (show u2 = Value.ref tp from r2)
  obtain ⟨od, J⟩ := held_inst hz hf I hh
  obtain ⟨_, its, rv, o, h1, h2, n, h3⟩ := (show ObjOk X.prog X.w H s.heap tp (.tup cs) from I.hok tp _ hT)
  have e3 := ClsV.all k rv
  subst e3
  obtain ⟨oc, od', dt, sl⟩ := o
  simp only at h2 h3
  subst h2 h3
  exact PySem.W.kia_tup (kitx_of_exc C) I.kIn J h1 e (fun z => nomatch z) fun tk => ⟨.bl b, H, I.tok tk, rfl, q⟩
end
/-! ### more of data -/
section
variable {K : PySem.W.Frag} {N N' : Addr → Prop} {H : Hp}
mutual
theorem Dq.weak (hN : ∀ x, N' x → N x) : ∀ (d : PyData) (v : V), Dq K N H v d → Dq K N' H v d
  | .none, _, h => by cases h; exact .non
  | .bool b, _, h => by cases h; exact .bl b
  | .int i, _, h => by cases h; exact .int i
  | .str x, _, h => by cases h; exact .str x
  | .list ds, _, h => by
    cases h with
    | lst h1 h2 e q => exact .lst h1 (fun z => h2 (hN _ z)) e (Dq.weakAll hN ds _ q)
  | .tuple ds, _, h => by
    cases h with
    | tup e q => exact .tup e (Dq.weakAll hN ds _ q)
  | .dict kvs, _, h => by
    cases h with
    | dct0 e => exact .dct0 e
    | dct1 e => exact .dct1 e
    | dctN e => exact .dctN e
    | dct2 e => exact .dct2 e
theorem Dq.weakAll (hN : ∀ x, N' x → N x) : ∀ (ds : List PyData) (vs : List V), DqAll K N H vs ds → DqAll K N' H vs ds
  | [], _, h => by cases h; exact .nil
  | d :: ds, _, h => by
    cases h with
    | cons r t => exact .cons (Dq.weak hN d _ r) (Dq.weakAll hN ds _ t)
end
mutual
theorem Dq.toDp : ∀ (d : PyData) (v : V), d.hasDict = false → Dq K N H v d → Dp K H v d
  | .none, _, _, h => by cases h; exact .non
  | .bool b, _, _, h => by cases h; exact .bl b
  | .int i, _, _, h => by cases h; exact .int i
  | .str x, _, _, h => by cases h; exact .str x
  | .list ds, _, n, h => by
    cases h with
    | lst h1 h2 e q => exact .lst (.inl (.inl e)) (Dq.toDpAll ds _ (by simpa only [PyData.hasDict] using n) q)
  | .tuple ds, _, n, h => by
    cases h with
    | tup e q => exact .tup e (Dq.toDpAll ds _ (by simpa only [PyData.hasDict] using n) q)
  | .dict kvs, _, n, h => by simp [PyData.hasDict] at n
theorem Dq.toDpAll : ∀ (ds : List PyData) (vs : List V), PyData.hasDictAll ds = false → DqAll K N H vs ds → DpAll K H vs ds
  | [], _, _, h => by cases h; exact .nil
  | d :: ds, _, n, h => by
    cases h with
    | cons r t =>
      simp only [PyData.hasDictAll, Bool.or_eq_false_iff] at n
      exact .cons (Dq.toDp d _ n.1 r) (Dq.toDpAll ds _ n.2 t)
end
end
end Pr
/-! C(), C an own error class without __init__. -/
namespace Pr
open PySem PySem.Spec PyProof.Rows L2
section
variable {X : Cx}
theorem pmk_own0 {C : Addr} {bmB : List Value} {B newId initId : String} {x : Str} {p pos : Pos} (F : ExcBaseFacts B newId initId bmB) (q : PySem.W.excIn X.K C bmB newId = true) (gC : X.mg x = some (.ref C)) (kC : PySem.W.keepIn X.K (.ref C) = true) (r : Raises X (.ref C)) (hg : Gl X x)
    (hdb : (x == ("__debug__" : Str)) = false := by decide) : PMk X (.Call (.Name x p) [] [] pos) (fun _ H Q => Q (.ref C) none H) := by
  intro pins s σ H Q I h
  refine wpAny_Call_Name_kw (ld_glob I hg gC ?_ hdb)
  refine PySem.W.callWith_K0 I.kIn kC ?_
  show wpAny _ _ (call (.ref C) []) _ _ _
  obtain ⟨bm, N, nm, qn, bs, hdct, sn, sub, ab, col, dd, k0, k1, k2, k3, k5, mN, hC, hN, hni, T⟩ := exc_obj I.kIn q
  refine wpAny_call_exc_subT F T hC hN hni (fun h' e hm => ?_) (by show 0 ≤ sizeLine; omega)
  exact mk_of I hm r h (I.hok.gone hm.new)
/-- what the top says of such a class -/
structure Ex0 (K : PySem.W.Frag) (mg : Str → Option Value) (nm : Str) (C : Addr) : Prop where
  q : PySem.W.excIn K C [.type "ValueError", .type "Exception", .type "BaseException", .type "object"] "ValueError.__new__" = true
  g : mg nm = some (.ref C)
  k : PySem.W.keepIn K (.ref C) = true
  s : PySem.W.subIn K (.ref C) (.type "BaseException") = some true
  t : PySem.W.typeIn K (.ref C) = some (.type "type")
theorem Ex0.made {nm : Str} {C : Addr} {p pos : Pos} (T : Ex0 X.K X.mg nm C) (hg : Gl X nm) (hdb : (nm == ("__debug__" : Str)) = false := by decide) : PMk X (.Call (.Name nm p) [] [] pos) (fun _ H Q => Q (.ref C) none H) :=
  pmk_own0 PySem.F.excBase_ValueError T.q T.g T.k (raises_own T.s T.t) hg hdb
end

/-! ### isinstance of a caught error, with fields or without -/
def HeldY (D : Addr) (cls : Value) (d : Option Addr) (H : Hp) : Prop := cls = .ref D ∧ (d = none ∨ ∃ dd fs, d = some dd ∧ H dd = some (.xd fs))
def rIsY (K : PySem.W.Frag) (D a : Addr) (cls : Value) (d : Option Addr) : List V → Hp → VK → Prop := fun xs H Q => HeldY D cls d H ∧ ∃ (c : V) (u : Value) (b : Bool), xs = [.ref a, c] ∧ ClsV c u ∧ PySem.W.kitOne K (.ref D) u = some b ∧ Q (.bl b) H
def rIsYT (K : PySem.W.Frag) (D a : Addr) (cls : Value) (d : Option Addr) : List V → Hp → VK → Prop := fun xs H Q => HeldY D cls d H ∧ ∃ (tp : Addr) (cs : List V) (us : List Value) (b : Bool), xs = [.ref a, .ref tp] ∧ H tp = some (.tup cs) ∧ Paired ClsV cs us ∧ PySem.W.kitAny K (.ref D) us = some b ∧ Q (.bl b) H
section
variable {X : Cx} {a D : Addr} {oe : Obj} {cls : Value} {d : Option Addr} {pn pins : List (Addr × Obj)} {s : Shared} {σ : L2.St} {H : Hp}
theorem held_instY (hz : Zc cls d oe) (hf : ∃ vs, oe.data = .fields vs) (I : Inv (X.suite a ((a, oe) :: pn)) pins σ H s) (h : HeldY D cls d H) : ∃ od : Option Obj, PySem.W.InstAt s.heap a oe D od := by
  obtain ⟨rfl, rfl | ⟨dd, fs, rfl, ea⟩⟩ := h
  · obtain ⟨ha, _⟩ := I.pin (a, oe) (List.mem_append_left _ List.mem_cons_self)
    obtain ⟨vs, hd⟩ := hf
    exact ⟨none, ha, hz.1, by unfold PySem.W.notCls; rw [hd] <;> rfl, by rw [hz.2]; trivial⟩
  · obtain ⟨od, h⟩ := held_inst hz hf I ⟨rfl, dd, fs, rfl, ea⟩
    exact ⟨some od, h⟩
theorem call_isY (C : ExcC X.K D) (hz : Zc cls d oe) (hf : ∃ vs, oe.data = .fields vs) : CallR (X.suite a ((a, oe) :: pn)) (.builtin "isinstance") (rIsY X.K D a cls d) := by
  intro pins s σ H xs us Q I r h
  obtain ⟨hh, c, u, b, rfl, k, e, q⟩ := h
  obtain ⟨u1, u2, rfl, r1, r2⟩ := vals2 r
  cases (show u1 = Value.ref a from r1)
  have e2 := k.eq r2
  subst e2
  obtain ⟨od, J⟩ := held_instY hz hf I hh
  exact PySem.W.kia_one (kitx_of_exc C) I.kIn J e (fun z => nomatch z) fun tk => ⟨.bl b, H, I.tok tk, rfl, q⟩
theorem call_isYT (C : ExcC X.K D) (hz : Zc cls d oe) (hf : ∃ vs, oe.data = .fields vs) : CallR (X.suite a ((a, oe) :: pn)) (.builtin "isinstance") (rIsYT X.K D a cls d) := by
  intro pins s σ H xs us Q I r h
  obtain ⟨hh, tp, cs, ws, b, rfl, hT, k, e, q⟩ := h
  obtain ⟨u1, u2, rfl, r1, r2⟩ := vals2 r
  cases (show u1 = Value.ref a from r1)
  cases (show u2 = Value.ref tp from r2)
  obtain ⟨od, J⟩ := held_instY hz hf I hh
  obtain ⟨_, its, rv, o, h1, h2, n, h3⟩ := (show ObjOk X.prog X.w H s.heap tp (.tup cs) from I.hok tp _ hT)
  have e3 := ClsV.all k rv
  subst e3
  obtain ⟨oc, od', dt, sl⟩ := o
  simp only at h2 h3
  subst h2 h3
  exact PySem.W.kia_tup (kitx_of_exc C) I.kIn J h1 e (fun z => nomatch z) fun tk => ⟨.bl b, H, I.tok tk, rfl, q⟩
end
theorem kit_selfY {K : PySem.W.Frag} {C : Addr} : PySem.W.kitOne K (.ref C) (.ref C) = some true := if_pos (beq_self_eq_true _)
theorem passX {X : Cx} : Passes (L2.CX X.prog X.w) X E0 := fun _ _ _ _ _ _ _ h => by
  obtain ⟨_, _, _, _, _, _, _, _, _, _, _, _, z⟩ := h
  exact z.elim
end Pr
/-! Own errors with a field; a def with a star parameter, called plainly. -/
namespace Pr
open PySem PySem.Spec PyProof.Rows L2
/-- what the top says of an error class with one field, and of its __init__ -/
structure ExF (K : PySem.W.Frag) (mg : Str → Option Value) (nm fld qn : Str) (sI : Stmt) (C fI : Addr) (fdI : FuncData) : Prop where
  oex : OexC K C
  iC : PySem.W.findIn K (.ref C) "__init__" = some (some (.ref fI))
  tI : PySem.W.typeIn K (.ref fI) = some (.type "function")
  noN : PySem.W.findIn K (.ref C) fld = some none
  g : mg nm = some (.ref C)
  FI : Fun K "__init__" qn sI fI fdI
  bI : Binds K fdI ["self", fld] []
def spI (K : PySem.W.Frag) (C : Addr) (fld : Str) : Sp := fun vs H Q _ => ∃ (e : Addr) (y : V), vs = [.ref e, y] ∧ OexC K C ∧ PySem.W.findIn K (.ref C) fld = some none ∧ H e = some (exo e C none) ∧
  ∀ dx, H dx = none → dx ≠ e → Q .non (upd (upd H dx (exd dx [(fld, y)])) e (exo e C (some dx)))
theorem madeF {H : Hp} {C a dx : Addr} {y : V} {fld : Str} (na : H a = none) (nd : (upd H a (exo a C none)) dx = none) (ne : dx ≠ a) :
    (upd (upd (upd H a (exo a C none)) dx (exd dx [(fld, y)])) a (exo a C (some dx))) a = some (exo a C (some dx)) ∧
    (upd (upd (upd H a (exo a C none)) dx (exd dx [(fld, y)])) a (exo a C (some dx))) dx = some (exd dx [(fld, y)]) ∧ H dx = none ∧
    Same H (upd (del (upd (upd (upd H a (exo a C none)) dx (exd dx [(fld, y)])) a (exo a C (some dx))) a) dx (.xd [(fld, y)])) := by
  have nd' : H dx = none := by rw [upd_ne ne] at nd; exact nd
  refine ⟨upd_same, by rw [upd_ne ne, upd_same], nd', fun b o e => ?_⟩
  rw [upd_ne (ne_of_none e nd'), del_ne (ne_of_none e na), upd_ne (ne_of_none e na), upd_ne (ne_of_none e nd'), upd_ne (ne_of_none e na)]
  exact e
/-- what is left to answer where such an error is made with y -/
theorem rzF {K : PySem.W.Frag} {mg : Str → Option Value} {nm fld qn : Str} {sI : Stmt} {C fI : Addr} {fdI : FuncData} (T : ExF K mg nm fld qn sI C fI fdI) {Hx : Hp} {y : V} {E : XK} (q : ∀ H' dd, Same Hx H' → H' dd = some (.xd [(fld, y)]) → E (.ref C) (some dd) H') :
    [y].length ≤ 1000 ∧ ∀ a, Hx a = none → spI K C fld (.ref a :: ([y] ++ [])) (upd Hx a (exo a C none))
        (fun v H2 => v = .non ∧ ∃ (d : Addr) (fs : List (Str × V)), H2 a = some (exo a C (some d)) ∧ H2 d = some (exd d fs) ∧ Hx d = none ∧ E (.ref C) (some d) (upd (del H2 a) d (.xd fs))) (fun _ _ _ => False) := by
  refine ⟨by show 1 ≤ 1000; decide, fun a na => ⟨a, y, rfl, T.oex, T.noN, upd_same, fun dx nd ne => ⟨rfl, dx, [(fld, y)], ?_⟩⟩⟩
  obtain ⟨m1, m2, m3, m4⟩ := madeF (y := y) (fld := fld) na nd ne
  exact ⟨m1, m2, m3, q _ dx m4 upd_same⟩
section
variable {X : Cx} {CX : CXT} {k : Nat} {f : Addr} {sp : Sp} {E : XK} {x : Str} {p pos : Pos} {e : Expr} {es : List Expr} {t : TA}
theorem pe_callR (F : FnR X.prog X.w X.K X.mg X.base CX k f sp) (hr : Room k X.A) (hk : PySem.W.keepIn X.K (.ref f) = true) (hg : Gl X x) (hm : X.mg x = some (.ref f)) (hx : Passes CX X E) (ha : PA X (e :: es) t) (hd : (x == ("__debug__" : Str)) = false := by decide)
    (he : starEach (e :: es) X.env = (false, eval e X.env) :: starEach es X.env := by rfl) (hpl : (backTo pos (starEach es X.env)).any (·.1) = false := by rfl) :
    PE X (.Call (.Name x p) (e :: es) [] pos) (fun σ H Q => t σ H fun vs H1 => sp vs H1 Q E) := by
  refine ⟨fun pins s σ H Q I h => ?_⟩
  refine wpAny_Call_Name_kw (ld_glob I hg hm ?_ hd)
  refine PySem.W.callWith_K (h₀ := X.base) I.ok.mod.kin hk (thn (ha.run pos pins s σ H _ I h) fun us s1 ⟨vs, H1, I1, r, q⟩ => ⟨I1.kIn, ?_⟩) he hpl
  exact wpAny_call (run_fnR F hr hx I1 r q)
/-- the same with a wish for what it may raise -/
theorem pe_callRS {E : L2.St → XK} (F : FnR X.prog X.w X.K X.mg X.base CX k f sp) (hr : Room k X.A) (hk : PySem.W.keepIn X.K (.ref f) = true) (hg : Gl X x) (hm : X.mg x = some (.ref f)) (hx : ∀ σ, PassesAt CX X σ (E σ)) (ha : PA X (e :: es) t) (hd : (x == ("__debug__" : Str)) = false := by decide)
    (he : starEach (e :: es) X.env = (false, eval e X.env) :: starEach es X.env := by rfl) (hpl : (backTo pos (starEach es X.env)).any (·.1) = false := by rfl) :
    PE X (.Call (.Name x p) (e :: es) [] pos) (tCallS sp E t) := by
  refine ⟨fun pins s σ H Q I h => ?_⟩
  refine wpAny_Call_Name_kw (ld_glob I hg hm ?_ hd)
  refine PySem.W.callWith_K (h₀ := X.base) I.ok.mod.kin hk (thn (ha.run pos pins s σ H _ I h) fun us s1 ⟨vs, H1, I1, r, q⟩ => ⟨I1.kIn, ?_⟩) he hpl
  refine wpAny_call (codeAny_mono (F X.A X.stack s1 H1 us vs Q (E σ) hr I1.env0 r q) fun r s' hq => ?_)
  cases r with
  | error e => exact hx σ pins H1 s1 e s' I1 hq
  | ok fl =>
    cases fl with
    | ret u => exact I1.after hq
    | next => exact False.elim hq
    | brk => exact False.elim hq
    | cont => exact False.elim hq
end
end Pr
/-! Panels as data; objects that change. -/
namespace Pr
open PySem PySem.Spec PyProof.Rows L2
section
variable {K : PySem.W.Frag} {H H' : Hp} {pan : List (List Int)}
theorem panT_dp {v : V} (h : Dp K H v (dPan pan)) : ∃ p, v = .ref p ∧ PanT K H p pan := by
  obtain ⟨p, xs, rfl, hq, hr⟩ := h.tupI
  have : ∀ (xs : List V) (pan : List (List Int)), DpAll K H xs (pan.map dInts) → ∃ qs : List Addr, xs = qs.map V.ref ∧ Paired (fun q l => SqT K H q (l.map V.int)) qs pan := by
    intro xs pan
    induction pan generalizing xs with
    | nil => intro h; cases h; exact ⟨[], rfl, .nil⟩
    | cons l pan ih =>
      intro h
      cases h with
      | cons h1 h2 =>
        obtain ⟨q, rfl, hq⟩ := h1.intsI
        obtain ⟨qs, rfl, hqs⟩ := ih _ h2
        exact ⟨q :: qs, rfl, .cons hq hqs⟩
  obtain ⟨qs, rfl, hqs⟩ := this xs pan hr
  exact ⟨p, rfl, qs, hq, hqs⟩
theorem dq_panT {N : Addr → Prop} {p : Addr} (h : PanT K H p pan) : Dq K N H (.ref p) (dPan pan) := by
  obtain ⟨qs, h1, h2⟩ := h
  refine .tup h1 ?_
  have : ∀ {qs : List Addr} {pan : List (List Int)}, Paired (fun q l => SqT K H q (l.map V.int)) qs pan → DqAll K N H (qs.map V.ref) (pan.map dInts) := fun h => by
    induction h with
    | nil => exact .nil
    | cons a b ih => exact .cons (dq_ints a) ih
  exact this h2
end
theorem asc_from {n : Int} : ∀ {l : List Int} {b : Int}, l.Pairwise (· < ·) → (∀ x ∈ l, b < x ∧ 0 ≤ x ∧ x < n) → ascFrom n b (l.map PyData.int) = true
  | [], _, _, _ => rfl
  | x :: l, b, up, h => by
    rw [List.pairwise_cons] at up
    have hx := h x List.mem_cons_self
    have ih := asc_from (n := n) (b := x) up.2 fun y hy => ⟨up.1 y hy, (h y (List.mem_cons_of_mem _ hy)).2⟩
    show (decide (0 ≤ x) && decide (x < n) && decide (b < x) && ascFrom n x (l.map PyData.int)) = true
    rw [ih, decide_eq_true hx.1, decide_eq_true hx.2.1, decide_eq_true hx.2.2]; rfl
theorem err_from {n : Int} : ∀ (pan : List (List Int)) (k : Nat), (∀ l ∈ pan, l.Pairwise (· < ·) ∧ ∀ x ∈ l, 0 ≤ x ∧ x < n) → (∀ (j : Nat) (l : List Int), pan[j]? = some l → ((k + j : Nat) : Int) ∉ l) → errFrom n k (pan.map dInts) = .none
  | [], _, _, _ => rfl
  | l :: pan, k, h1, h2 => by
    have a := h1 l List.mem_cons_self
    have b := h2 0 l rfl
    have ih := err_from pan (k + 1) (fun m hm => h1 m (List.mem_cons_of_mem _ hm)) fun j m hj => by
      have := h2 (j + 1) m hj
      rw [show k + 1 + j = k + (j + 1) by omega]; exact this
    show (if btnT n (dInts l) then (if hasInt (k : Int) (dInts l) then dErr (.int (k : Int)) "itself" else errFrom n (k + 1) (pan.map dInts)) else dErr (.int (k : Int)) "list") = .none
    have e1 : btnT n (dInts l) = true := asc_from a.1 fun x hx => ⟨by have := a.2 x hx; omega, a.2 x hx⟩
    have e2 : hasInt (k : Int) (dInts l) = false := by
      show ((l.map PyData.int).any fun d => match d with | .int i => decide (i = (k : Int)) | _ => false) = false
      rw [List.any_map, List.any_eq_false]
      intro x hx
      simp only [Function.comp, decide_eq_true_eq]
      rintro rfl
      exact b (by simpa using hx)
    rw [e1, e2, if_pos rfl, if_neg Bool.false_ne_true, ih]
theorem err_good {pan : List (List Int)} (g : Good pan) : errD (dPan pan) = .none := by
  show (if 1 ≤ (pan.map dInts).length ∧ (pan.map dInts).length ≤ 10 then errFrom ((pan.map dInts).length : Int) 0 (pan.map dInts) else dErr .none "panel") = .none
  rw [List.length_map, if_pos ⟨g.pos, g.few⟩]
  exact err_from pan 0 (fun l hl => ⟨g.up l hl, g.rng l hl⟩) fun j l hj => by rw [Nat.zero_add]; exact g.own j l hj
/-- all but the object at g stands as before -/
def ButO (g : Addr) (H H' : Hp) : Prop := ∀ b o, b ≠ g → H b = some o → H' b = some o
theorem ButO.refl (g : Addr) (H : Hp) : ButO g H H := fun _ _ _ e => e
theorem ButO.of {g : Addr} {H H' : Hp} (s : Same H H') : ButO g H H' := fun b o _ e => s b o e
theorem ButO.trans {g : Addr} {H H1 H2 : Hp} (x : ButO g H H1) (y : ButO g H1 H2) : ButO g H H2 := fun b o n e => y b o n (x b o n e)
theorem ButO.upd {g : Addr} {H : Hp} {o : HO} : ButO g H (upd H g o) := fun b o' n e => by rw [upd_ne n]; exact e
theorem ButO.kp {g C dx : Addr} {fs : List (Str × V)} {H H' : Hp} (h : H g = some (.ins C dx fs)) (b : ButO g H H') : Kp H H' :=
  ⟨fun p xs e => b _ _ (ne_of e h (by intro z; cases z)) e, fun p o u e => b _ _ (ne_of e h (by intro z; cases z)) e⟩
theorem ButO.deck {g C dx a c : Addr} {m : Nat} {fs : List (Str × V)} {H H' : Hp} (h : H g = some (.ins C dx fs)) (b : ButO g H H') (D : Deck H a c m) : Deck H' a c m := by
  obtain ⟨cs, k, h1, h2, h3⟩ := D
  exact ⟨cs, k, b _ _ (ne_of h1 h (by intro z; cases z)) h1, b _ _ (ne_of h2 h (by intro z; cases z)) h2, h3⟩
theorem PanT.kp {K : PySem.W.Frag} {H H' : Hp} {p : Addr} {pan : List (List Int)} (k : Kp H H') (h : PanT K H p pan) : PanT K H' p pan := by
  obtain ⟨p', e, h'⟩ := panT_dp (h.dp.kp k (lf_pan _))
  cases e; exact h'
end Pr
/-! The states between two: how states_between finds them (for sources_of). -/
namespace Pr
open PySem PySem.Spec PyProof.Rows L2
/-- the states found after the buttons of `most`, in the order in which they are found -/
def betM (least : List Int) : List Int → List (List Int)
  | [] => [least]
  | b :: r => let s := betM least r; if b ∈ least then s else s ++ s.map fun l => srt (l ++ [b])
theorem betM_self (least most : List Int) : least ∈ betM least most := by
  induction most with
  | nil => exact List.mem_singleton.mpr rfl
  | cons b r ih =>
    unfold betM
    dsimp only
    split
    · exact ih
    · exact List.mem_append_left _ ih
theorem srt_mem {l : List Int} {x : Int} : x ∈ srt l ↔ x ∈ l := (srt_perm l).mem_iff
/-- what is found lies between the two -/
theorem betM_sub {least : List Int} : ∀ {most l : List Int}, l ∈ betM least most → (∀ x ∈ least, x ∈ l) ∧ ∀ x ∈ l, x ∈ least ∨ x ∈ most
  | [], l, h => by
    rw [List.mem_singleton.mp h]
    exact ⟨fun _ h => h, fun _ h => .inl h⟩
  | b :: r, l, h => by
    unfold betM at h
    dsimp only at h
    split at h
    · have := betM_sub h
      exact ⟨this.1, fun x hx => (this.2 x hx).imp_right (List.mem_cons_of_mem _)⟩
    · rcases List.mem_append.mp h with h | h
      · have := betM_sub h
        exact ⟨this.1, fun x hx => (this.2 x hx).imp_right (List.mem_cons_of_mem _)⟩
      · obtain ⟨k, hk, rfl⟩ := List.mem_map.mp h
        have := betM_sub hk
        refine ⟨fun x hx => srt_mem.mpr (List.mem_append_left _ (this.1 x hx)), fun x hx => ?_⟩
        rcases List.mem_append.mp (srt_mem.mp hx) with h1 | h1
        · exact (this.2 x h1).imp_right (List.mem_cons_of_mem _)
        · rw [List.mem_singleton.mp h1]; exact .inr List.mem_cons_self
theorem srt_asc {l : List Int} (nd : l.Nodup) : (srt l).Pairwise (· < ·) := by
  have nd' : (srt l).Nodup := (srt_perm l).nodup_iff.mpr nd
  exact (List.Pairwise.and (srt_up l) nd').imp fun {a b} h => by have := h.1; have := h.2; omega
/-- all that lie between the two are found -/
theorem betM_all {least : List Int} (hl : least.Pairwise (· < ·)) : ∀ {most l : List Int}, l.Pairwise (· < ·) → (∀ x ∈ least, x ∈ l) → (∀ x ∈ l, x ∈ least ∨ x ∈ most) → l ∈ betM least most
  | [], l, up, h1, h2 => by
    refine List.mem_singleton.mpr (asc_ext up hl fun x => ⟨fun hx => ?_, h1 x⟩)
    rcases h2 x hx with h | h
    · exact h
    · cases h
  | b :: r, l, up, h1, h2 => by
    have nd : l.Nodup := up.imp fun {a c} (h : a < c) => Int.ne_of_lt h
    unfold betM
    dsimp only
    by_cases hb : b ∈ least
    · rw [if_pos hb]
      refine betM_all hl up h1 fun x hx => ?_
      rcases h2 x hx with h | h
      · exact .inl h
      · rcases List.mem_cons.mp h with rfl | h
        · exact .inl hb
        · exact .inr h
    · rw [if_neg hb]
      by_cases hbl : b ∈ l
      · have e : srt (l.erase b ++ [b]) = l := by
          have nd2 : (l.erase b ++ [b]).Nodup := by
            rw [List.nodup_append]
            refine ⟨nd.erase b, by simp, fun x hx y hy e => ?_⟩
            rw [List.mem_singleton.mp hy] at e
            rw [e] at hx
            exact (nd.not_mem_erase) hx
          refine asc_ext (srt_asc nd2) up fun x => ?_
          rw [srt_mem, List.mem_append, List.mem_singleton]
          by_cases ex : x = b
          · subst ex; exact ⟨fun _ => hbl, fun _ => .inr rfl⟩
          · rw [List.mem_erase_of_ne ex]
            exact ⟨fun h => h.resolve_right ex, .inl⟩
        refine List.mem_append_right _ (List.mem_map.mpr ⟨l.erase b, ?_, e⟩)
        refine betM_all hl (up.sublist List.erase_sublist) (fun x hx => (List.mem_erase_of_ne (fun z : x = b => hb (by rw [← z]; exact hx))).mpr (h1 x hx)) fun x hx => ?_
        rcases h2 x (List.mem_of_mem_erase hx) with h | h
        · exact .inl h
        · rcases List.mem_cons.mp h with rfl | h
          · exact absurd hx nd.not_mem_erase
          · exact .inr h
      · refine List.mem_append_left _ (betM_all hl up h1 fun x hx => ?_)
        rcases h2 x hx with h | h
        · exact .inl h
        · rcases List.mem_cons.mp h with rfl | h
          · exact absurd hx hbl
          · exact .inr h
end Pr
/-! Where two rows lead apart. -/
namespace Pr
open PySem PySem.Spec PyProof.Rows L2
def diffM (pan : List (List Int)) (row oth : List Int) : List Nat := (List.range pan.length).filter fun c => decide (wordsM pan row (c : Int) ≠ wordsM pan oth (c : Int))
theorem mem_diff {pan : List (List Int)} {row oth : List Int} {c : Nat} : c ∈ diffM pan row oth ↔ c < pan.length ∧ wordsM pan row (c : Int) ≠ wordsM pan oth (c : Int) := by
  unfold diffM
  rw [List.mem_filter, List.mem_range, decide_eq_true_eq]
theorem diff_symm (pan : List (List Int)) (row oth : List Int) : diffM pan oth row = diffM pan row oth := by
  unfold diffM
  refine List.filter_congr fun c _ => decide_eq_decide.mpr ⟨fun h e => h e.symm, fun h e => h e.symm⟩
def onB (pan : List (List Int)) (row oth : List Int) : Bool := (diffM pan row oth).any fun c => decide (wOn ∈ [wordsM pan row (c : Int), wordsM pan oth (c : Int)])
theorem onB_symm (pan : List (List Int)) (row oth : List Int) : onB pan oth row = onB pan row oth := by
  unfold onB
  rw [diff_symm]
  congr 1
  funext c
  exact decide_eq_decide.mpr (by simp only [List.mem_cons, List.not_mem_nil, or_false]; exact ⟨fun h => h.symm, fun h => h.symm⟩)
theorem onB_iff {pan : List (List Int)} {row oth : List Int} : onB pan row oth = true ↔ ∃ c ∈ diffM pan row oth, wordsM pan row (c : Int) = wOn ∨ wordsM pan oth (c : Int) = wOn := by
  unfold onB
  rw [List.any_eq_true]
  constructor
  · rintro ⟨c, hc, h⟩
    have := of_decide_eq_true h
    simp only [List.mem_cons, List.not_mem_nil, or_false] at this
    exact ⟨c, hc, this.elim (fun e => .inl e.symm) fun e => .inr e.symm⟩
  · rintro ⟨c, hc, h⟩
    refine ⟨c, hc, decide_eq_true ?_⟩
    simp only [List.mem_cons, List.not_mem_nil, or_false]
    exact h.elim (fun e => .inl e.symm) fun e => .inr e.symm
def findM (pan : List (List Int)) (row oth : List Int) : PyData := match diffM pan row oth with
  | [] => .none
  | d :: _ => if onB pan row oth = true then dInts [] else dInts (intL (d + 1))
theorem findM_symm (pan : List (List Int)) (row oth : List Int) : findM pan oth row = findM pan row oth := by
  unfold findM
  rw [diff_symm, onB_symm]
theorem set_threeP {i j k : Nat} (σ : L2.St) (v u w : V) : ((((((((σ.set k none).set j none).set i none).set i (some v)).set j (some u)).set k (some w)).set k none).set j none).set i none = ((σ.set k none).set j none).set i none := by
  refine List.ext_getElem? fun m => ?_
  simp only [List.getElem?_set, List.length_set]
  repeat' split
  all_goals first | rfl | simp_all
section
variable {K : PySem.W.Frag} {σ : L2.St} {H : Hp} {t : TE}
/-- a comprehension, its target a name and a pair -/
theorem gn_lcP {wi : TI} {tt : TT} {te : TE} {i j l : Nat} {α : Type} {δ1 δ2 δ3 : α → PyData} {as : List α} {p : α → Bool} {f : α → PyData} (hI : GvI K Same wi σ H (as.map fun a => .tuple [δ1 a, .tuple [δ2 a, δ3 a]]))
    (hb : ∀ a v u w H1, a ∈ as → Same H H1 → Dp K H1 v (δ1 a) → Dp K H1 u (δ2 a) → Dp K H1 w (δ3 a) → GvT tt ((((((σ.set l none).set j none).set i none).set i (some v)).set j (some u)).set l (some w)) H1 (p a) ∧ (p a = true → Gv K te ((((((σ.set l none).set j none).set i none).set i (some v)).set j (some u)).set l (some w)) H1 (f a)))
    (hf : ∀ a ∈ as, lf (f a) = true) (hn : as.length ≤ 100000) : GvN K (tLc wi (gTup K 2 (gCons (gName i) (gCons (gTup K 2 (gCons (gName j) (gCons (gName l) gNil))) gNil))) tt te [i, j, l]) σ H ((as.filter p).map f) := by
  intro H0 s0 Q q
  refine hI H0 s0 _ fun J H1 s1 w D nD => ?_
  rw [List.length_map] at w
  refine lc_it w (LcP K H1 D fun k => ((as.take k).filter p).map f) ⟨fun b o hb e => by rw [upd_ne hb]; exact e, [], upd_same, .nil, Nat.zero_le _⟩ (fun k H2 _ hP b o e => hP.1 b o (ne_of_none e nD) e) (fun k x H2 H3 hk hP hY => ?_) (fun H2 hP => ?_)
  · obtain ⟨s2, acc, eD, hacc, la⟩ := hP
    obtain ⟨s3, d, hd, dx⟩ := hY
    rw [List.getElem?_map, List.getElem?_eq_getElem hk] at hd
    cases hd
    have sH : Same H H3 := (s0.trans s1).trans fun b o e => s3 _ _ (s2 b o (ne_of_none e nD) e)
    obtain ⟨T, xs, rfl, hT, hr⟩ := dx.tupI
    obtain ⟨v, u, rfl, dv, du⟩ := dpAll2 hr
    obtain ⟨T2, xs2, rfl, hT2, hr2⟩ := du.tupI
    obtain ⟨u2, u3, rfl, d2, d3⟩ := dpAll2 hr2
    obtain ⟨g1, g2⟩ := hb as[k] v u2 u3 H3 (List.getElem_mem _) sH dv d2 d3
    refine ⟨T, [v, .ref T2], rfl, hT, rfl, v, [.ref T2], rfl, .ref T2, [], rfl, T2, [u2, u3], rfl, hT2, rfl, u2, [u3], rfl, u3, [], rfl, rfl, rfl, ?_, g1.at fun H4 s4 => ?_⟩
    · show ((((((((σ.set l none).set j none).set i none).set i (some v)).set j (some u2)).set l (some u3)).set l none).set j none).set i none = ((σ.set l none).set j none).set i none
      exact set_threeP _ _ _ _
    cases hp : p as[k] with
    | true =>
      rw [if_pos rfl]
      refine (g2 hp).sm s4 |>.at fun y H5 s5 dy => ⟨acc, s5 _ _ (s4 _ _ (s3 _ _ eD)), small5 (by omega), ?_⟩
      exact lcP_yes s2 ((s3.trans s4).trans s5) eD hacc la dy (by rw [fil_take hk, hp]; rfl) (lf_fil hf _)
    | false =>
      rw [if_neg Bool.false_ne_true]
      exact lcP_no s2 (s3.trans s4) eD hacc la (by rw [fil_take hk, hp]; exact List.append_nil _)
  · obtain ⟨s2, acc, eD, hacc, la⟩ := hP
    replace hacc : DpAll K H2 acc (((as.take as.length).filter p).map f) := hacc
    rw [List.take_length] at hacc
    exact q _ _ H2 (s1.trans fun b o e => s2 b o (ne_of_none e nD) e) (s1.free nD) eD hacc
theorem gvt_truL {ds : List PyData} {r : TT} (h : Gv K t σ H (.list ds)) (hr : r = fun σ H Q => t σ H fun x H' => ∃ k, TruV K x H' k ∧ Q k H') : GvT r σ H (!ds.isEmpty) := fun H1 s Q q => by
  subst hr
  refine h H1 s _ fun v H2 s2 dv => ?_
  obtain ⟨a, xs, rfl, hq, hr⟩ := dv.lstI
  refine ⟨_, .inl ⟨xs, hq, rfl⟩, ?_⟩
  have : xs.isEmpty = ds.isEmpty := by cases hr <;> rfl
  rw [this]; exact q _ s2
end
theorem zipIdx_range (n : Nat) : (List.range n).zipIdx = (List.range n).map fun c => (c, c) := by
  refine List.ext_getElem? fun i => ?_
  rw [List.getElem?_zipIdx, List.getElem?_map]
  by_cases h : i < n
  · rw [List.getElem?_range h]; simp
  · rw [List.getElem?_eq_none (by rw [List.length_range]; omega)]; rfl
theorem pairs_eff (pan : List (List Int)) (row oth : List Int) : (((effM pan row).map PyData.str).zip ((effM pan oth).map PyData.str)).map (fun x => PyData.tuple [x.1, x.2]) = (List.range pan.length).map fun c : Nat => dStrs [wordsM pan row (c : Int), wordsM pan oth (c : Int)] := by
  unfold effM
  rw [List.map_map, List.map_map, List.zip_map, List.map_map]
  refine List.ext_getElem? fun i => ?_
  rw [List.getElem?_map, List.getElem?_map]
  by_cases h : i < pan.length
  · have : ((List.range pan.length).zip (List.range pan.length))[i]? = some (i, i) := List.getElem?_zip_eq_some.mpr ⟨List.getElem?_range h, List.getElem?_range h⟩
    rw [this, List.getElem?_range h]; rfl
  · rw [List.getElem?_eq_none (by rw [List.length_zip, List.length_range]; omega), List.getElem?_eq_none (by rw [List.length_range]; omega)]; rfl
theorem lf_find (pan : List (List Int)) (row oth : List Int) : lf (findM pan row oth) = true := by
  unfold findM
  split
  · rfl
  · split <;> exact lf_ints _
end Pr
/-! Runs and effects by words: panels that differ little. -/
namespace Pr
open PySem PySem.Spec PyProof.Rows L2
theorem snoc_ind {α : Type} {P : List α → Prop} (h0 : P []) (h1 : ∀ l x, P l → P (l ++ [x])) (l : List α) : P l := by
  rw [← l.reverse_reverse]
  induction l.reverse with
  | nil => exact h0
  | cons x r ih => rw [List.reverse_cons]; exact h1 _ x ih
theorem wordOne (pan : List (List Int)) (b c : Int) : wordsM pan [b] c = if b = c then wOn else if c ∈ pan.getD b.toNat [] then wOff else wSame := rfl
theorem words_snoc (pan : List (List Int)) (row : List Int) (b c : Int) : wordsM pan (row ++ [b]) c = if b = c then wOn else if c ∈ pan.getD b.toNat [] then wOff else wordsM pan row c := by
  unfold wordsM
  rw [List.foldl_append]; rfl
theorem memRun {pan : List (List Int)} {c : Int} (c0 : 0 ≤ c) (c1 : c < (pan.length : Int)) : ∀ (row st : List Int),
    (c ∈ runM pan st row ↔ wordsM pan row c = wOn ∨ (wordsM pan row c = wSame ∧ c ∈ st))
  | [], st => by
    show c ∈ st ↔ wSame = wOn ∨ (wSame = wSame ∧ c ∈ st)
    constructor
    · exact fun h => .inr ⟨rfl, h⟩
    · rintro (h | h)
      · exact absurd h same_ne_on
      · exact h.2
  | b :: r, st => by
    have ih := memRun c0 c1 r (pressM pan st b)
    have e : wordsM pan (b :: r) c = if wordsM pan r c = wSame then wordsM pan [b] c else wordsM pan r c := words_app pan [b] r c
    show c ∈ runM pan (pressM pan st b) r ↔ _
    rw [ih, e, mem_pressM]
    by_cases hs : wordsM pan r c = wSame
    · rw [if_pos hs, wordOne, hs]
      by_cases hc : b = c
      · subst hc
        simp [c0, c1]
      · rw [if_neg hc]
        by_cases hp : c ∈ pan.getD b.toNat []
        · rw [if_pos hp]
          have n1 : ¬ c = b := fun h => hc h.symm
          simp only [hp, n1, not_true_eq_false, and_false, or_false, false_or, same_ne_on]
          constructor
          · exact fun h => h.elim
          · rintro (h | h)
            · exact on_ne_off h.symm
            · exact same_ne_off h.1.symm
        · rw [if_neg hp]
          have n1 : ¬ c = b := fun h => hc h.symm
          simp only [hp, n1, c0, c1, same_ne_on, not_false_eq_true, and_true, true_and, false_or]
    · rw [if_neg hs]
      simp [hs]
theorem words_congr {p q : List (List Int)} {c : Int} : ∀ (row : List Int), (∀ b ∈ row, b ≠ c → (c ∈ p.getD b.toNat [] ↔ c ∈ q.getD b.toNat [])) → wordsM p row c = wordsM q row c := by
  intro row
  unfold wordsM
  generalize wSame = w
  induction row generalizing w with
  | nil => intro _; rfl
  | cons b r ih =>
    intro h
    rw [List.foldl_cons, List.foldl_cons]
    have e : wordM p c w b = wordM q c w b := by
      unfold wordM
      by_cases hb : b = c
      · rw [if_pos hb, if_pos hb]
      · rw [if_neg hb, if_neg hb]
        have := h b List.mem_cons_self hb
        by_cases hp : c ∈ p.getD b.toNat []
        · rw [if_pos hp, if_pos (this.mp hp)]
        · rw [if_neg hp, if_neg (fun z => hp (this.mpr z))]
    rw [e]
    exact ih _ fun x hx => h x (List.mem_cons_of_mem _ hx)
theorem run_congr {p q : List (List Int)} (hl : p.length = q.length) {row st : List Int} (hst : Asc p.length st) (h : ∀ c : Nat, c < p.length → wordsM p row (c : Int) = wordsM q row (c : Int)) : runM p st row = runM q st row := by
  have hq : Asc q.length st := hl ▸ hst
  refine asc_ext (runM_asc hst).up (runM_asc hq).up fun x => ?_
  by_cases hx : 0 ≤ x ∧ x < (p.length : Int)
  · obtain ⟨c, rfl⟩ : ∃ c : Nat, x = (c : Int) := ⟨x.toNat, (Int.toNat_of_nonneg hx.1).symm⟩
    rw [memRun hx.1 hx.2, memRun hx.1 (by rw [← hl]; exact hx.2), h c (by omega)]
  · exact ⟨fun z => absurd ((runM_asc hst).rng x z) hx, fun z => absurd ((runM_asc hq).rng x z) (by rw [← hl]; exact hx)⟩
theorem eff_congr {p q : List (List Int)} (hl : p.length = q.length) {row : List Int} (h : ∀ c : Nat, c < p.length → wordsM p row (c : Int) = wordsM q row (c : Int)) : effM p row = effM q row := by
  unfold effM
  rw [← hl]
  exact List.map_congr_left fun c hc => h c (List.mem_range.mp hc)
/-- the same but for one button -/
theorem run_but {p q : List (List Int)} (hl : p.length = q.length) {row st : List Int} (hst : Asc p.length st) {z : Int} (h : ∀ c : Nat, c < p.length → (c : Int) ≠ z → wordsM p row (c : Int) = wordsM q row (c : Int)) : (runM p st row).filter (fun x => !decide (x = z)) = (runM q st row).filter fun x => !decide (x = z) := by
  have hq : Asc q.length st := hl ▸ hst
  refine asc_ext ((runM_asc hst).up.filter _) ((runM_asc hq).up.filter _) fun x => ?_
  rw [List.mem_filter, List.mem_filter]
  by_cases hz : x = z
  · subst hz; simp
  · by_cases hx : 0 ≤ x ∧ x < (p.length : Int)
    · obtain ⟨c, rfl⟩ : ∃ c : Nat, x = (c : Int) := ⟨x.toNat, (Int.toNat_of_nonneg hx.1).symm⟩
      rw [memRun hx.1 hx.2, memRun hx.1 (by rw [← hl]; exact hx.2), h c (by omega) hz]
    · exact ⟨fun y => absurd ((runM_asc hst).rng x y.1) hx, fun y => absurd ((runM_asc hq).rng x y.1) (by rw [← hl]; exact hx)⟩
theorem words_on_mem {p : List (List Int)} {c : Int} (row : List Int) : wordsM p row c = wOn → c ∈ row := by
  refine snoc_ind (P := fun row => wordsM p row c = wOn → c ∈ row) (fun h => absurd h same_ne_on) (fun r b ih => ?_) row
  · rw [words_snoc]
    by_cases hb : b = c
    · intro _; rw [hb]; exact List.mem_append_right _ List.mem_cons_self
    · rw [if_neg hb]
      split
      · intro h; exact absurd h.symm on_ne_off
      · intro h; exact List.mem_append_left _ (ih h)
theorem words_rel {p : List (List Int)} {b c : Int} (hr : c ∈ p.getD b.toNat []) (row : List Int) (hb : b ∈ row) : wordsM p row c ≠ wSame := by
  revert hb
  refine snoc_ind (P := fun row => b ∈ row → wordsM p row c ≠ wSame) (fun h => by cases h) (fun r x ih hb => ?_) row
  · rw [words_snoc]
    by_cases hx : x = c
    · rw [if_pos hx]; exact fun h => same_ne_on h.symm
    · rw [if_neg hx]
      rcases List.mem_append.mp hb with h | h
      · split
        · exact fun h => same_ne_off h.symm
        · exact ih h
      · rw [List.mem_singleton.mp h] at hr
        rw [if_pos hr]; exact fun h => same_ne_off h.symm
end Pr
/-! Rounds, as plain functions. -/
namespace Pr
open PySem PySem.Spec PyProof.Rows L2
def onM' (pan : List (List Int)) (hs : List Int) (x : Int) : List Int := (pan.getD x.toNat []).filter fun y => decide (y ∈ hs)
def nextM (pan : List (List Int)) (hs : List Int) (x : Int) : Int := (onM' pan hs x).headD 0
def walkF (pan : List (List Int)) (hs : List Int) : Nat → List Int → List Int
  | 0, ws => ws
  | k + 1, ws => if ws.getLastD 0 ∈ ws.dropLast then ws else walkF pan hs k (ws ++ [nextM pan hs (ws.getLastD 0)])
/-- a walk that may go on -/
structure Wlk (pan : List (List Int)) (hs ws : List Int) : Prop where
  ne : ws ≠ []
  mem : ∀ x ∈ ws, x ∈ hs
  nd : ws.dropLast.Nodup
  link : ∀ (i : Nat) (x y : Int), ws[i]? = some x → ws[i + 1]? = some y → y ∈ pan.getD x.toNat []
theorem next_in {pan : List (List Int)} {hs : List Int} (hc : Closed pan hs) {x : Int} (hx : x ∈ hs) : ∃ r, onM' pan hs x = nextM pan hs x :: r ∧ nextM pan hs x ∈ hs ∧ nextM pan hs x ∈ pan.getD x.toNat [] := by
  obtain ⟨c, h1, h2⟩ := hc x hx
  have hm : c ∈ onM' pan hs x := List.mem_filter.mpr ⟨h1, decide_eq_true h2⟩
  unfold nextM
  cases e : onM' pan hs x with
  | nil => rw [e] at hm; cases hm
  | cons y r =>
    have hy : y ∈ onM' pan hs x := by rw [e]; exact List.mem_cons_self
    have := List.mem_filter.mp hy
    exact ⟨r, rfl, of_decide_eq_true this.2, this.1⟩
theorem last_get {ws : List Int} (h : ws ≠ []) : ws[ws.length - 1]? = some (ws.getLastD 0) := by
  rw [← List.getLast?_eq_getElem?, List.getLastD_eq_getLast?]
  cases e : ws.getLast? with
  | none => exact absurd (List.getLast?_eq_none_iff.mp e) h
  | some x => rfl
theorem Wlk.one {pan : List (List Int)} {hs : List Int} {x : Int} (hx : x ∈ hs) : Wlk pan hs [x] :=
  ⟨by simp, fun y hy => by rw [List.mem_singleton.mp hy]; exact hx, by simp, fun i a b _ h => by simp at h⟩
theorem Wlk.more {pan : List (List Int)} {hs ws : List Int} (h : Wlk pan hs ws) (hc : Closed pan hs) (hn : ws.getLastD 0 ∉ ws.dropLast) : Wlk pan hs (ws ++ [nextM pan hs (ws.getLastD 0)]) ∧ ws.Nodup := by
  have hl : ws.getLastD 0 ∈ hs := h.mem _ (List.mem_of_getElem? (last_get h.ne))
  obtain ⟨r, _, n1, n2⟩ := next_in hc hl
  have e : ws = ws.dropLast ++ [ws.getLastD 0] := by
    have h1 := List.dropLast_concat_getLast h.ne
    have h2 : ws.getLast h.ne = ws.getLastD 0 := by rw [List.getLastD_eq_getLast?, List.getLast?_eq_some_getLast h.ne]; rfl
    rw [h2] at h1
    exact h1.symm
  have nd : ws.Nodup := by
    rw [e, List.nodup_append]
    refine ⟨h.nd, by simp, fun a ha b hb => ?_⟩
    rw [List.mem_singleton.mp hb]
    exact fun z => hn (z ▸ ha)
  refine ⟨⟨by simp, fun x hx => ?_, by rw [List.dropLast_concat]; exact nd, fun i x y hx hy => ?_⟩, nd⟩
  · rcases List.mem_append.mp hx with q | q
    · exact h.mem x q
    · rw [List.mem_singleton.mp q]; exact n1
  · rcases Nat.lt_trichotomy (i + 1) ws.length with q | q | q
    · rw [List.getElem?_append_left (by omega)] at hx hy
      exact h.link i x y hx hy
    · rw [List.getElem?_append_left (by omega)] at hx
      rw [List.getElem?_append_right (by omega), show i + 1 - ws.length = 0 by omega] at hy
      have hy' : nextM pan hs (ws.getLastD 0) = y := by simpa using hy
      rw [show i = ws.length - 1 by omega, last_get h.ne] at hx
      rw [← hy', ← Option.some.inj hx]; exact n2
    · rw [List.getElem?_append_right (by omega), List.getElem?_eq_none (by rw [List.length_singleton]; omega)] at hy
      cases hy
/-! ### the ring, and its turn -/
theorem idx_get {l : List Int} {a : Int} (h : a ∈ l) : l[l.idxOf a]? = some a := by
  have hl := List.idxOf_lt_length_of_mem h
  rw [List.getElem?_eq_getElem hl, List.getElem_idxOf hl]
theorem idx_no : ∀ {l : List Int} {a : Int} {m : Nat}, m < l.idxOf a → l[m]? ≠ some a
  | [], a, m, h => by simp at h
  | x :: r, a, m, h => by
    rw [List.idxOf_cons] at h
    by_cases e : x = a
    · subst e; simp at h
    · have eb : (x == a) = false := by simpa using e
      rw [eb] at h
      match m, h with
      | 0, _ => intro z; exact e (by simpa using z)
      | m + 1, h => exact idx_no (l := r) (by simpa using h)
def minI (l : List Int) : Int := l.tail.foldl min (l.headD 0)
theorem min_foldl : ∀ (l : List Int) (n : Int), (l.foldl min n = n ∨ l.foldl min n ∈ l) ∧ l.foldl min n ≤ n ∧ ∀ y ∈ l, l.foldl min n ≤ y
  | [], n => ⟨.inl rfl, Int.le_refl _, fun y hy => by cases hy⟩
  | x :: r, n => by
    obtain ⟨h1, h2, h3⟩ := min_foldl r (min n x)
    rw [List.foldl_cons]
    have le1 : min n x ≤ n := Int.min_le_left _ _
    have le2 : min n x ≤ x := Int.min_le_right _ _
    refine ⟨?_, Int.le_trans h2 le1, fun y hy => ?_⟩
    · rcases h1 with q | q
      · rw [q]
        rcases Int.le_total n x with g | g
        · exact .inl (Int.min_eq_left g)
        · exact .inr (by rw [Int.min_eq_right g]; exact List.mem_cons_self)
      · exact .inr (List.mem_cons_of_mem _ q)
    · rcases List.mem_cons.mp hy with q | q
      · rw [q]; exact Int.le_trans h2 le2
      · exact h3 y q
theorem minI_spec {l : List Int} (h : l ≠ []) : minI l ∈ l ∧ ∀ y ∈ l, minI l ≤ y := by
  cases l with
  | nil => exact absurd rfl h
  | cons x r =>
    obtain ⟨h1, h2, h3⟩ := min_foldl r x
    unfold minI
    refine ⟨?_, fun y hy => ?_⟩
    · rcases h1 with q | q
      · show r.foldl min x ∈ _; rw [q]; exact List.mem_cons_self
      · exact List.mem_cons_of_mem _ q
    · rcases List.mem_cons.mp hy with q | q
      · rw [q]; exact h2
      · exact h3 y q
theorem minI_uniq {l : List Int} {m : Int} (h1 : m ∈ l) (h2 : ∀ y ∈ l, m ≤ y) : minI l = m := by
  have hne : l ≠ [] := fun e => by rw [e] at h1; cases h1
  obtain ⟨a, b⟩ := minI_spec hne
  exact Int.le_antisymm (b m h1) (h2 _ a)
def ringM (ws : List Int) : List Int := (ws.drop (ws.idxOf (ws.getLastD 0))).take (ws.length - 1 - ws.idxOf (ws.getLastD 0))
def turnM (l : List Int) : List Int := l.drop (l.idxOf (minI l)) ++ l.take (l.idxOf (minI l))
def roundM (pan : List (List Int)) (hs : List Int) : List Int := turnM (ringM (walkF pan hs 20 [hs.headD 0]))
/-- each but the last is followed by what it releases, the last one by the first -/
structure Rnd (pan : List (List Int)) (l : List Int) : Prop where
  two : 2 ≤ l.length
  nd : l.Nodup
  link : ∀ (i : Nat) (x y : Int), l[i]? = some x → l[i + 1]? = some y → y ∈ pan.getD x.toNat []
  back : ∀ x y : Int, l[l.length - 1]? = some x → l[0]? = some y → y ∈ pan.getD x.toNat []
theorem ring_get {ws : List Int} {k : Nat} (h : k < ws.length - 1 - ws.idxOf (ws.getLastD 0)) : (ringM ws)[k]? = ws[ws.idxOf (ws.getLastD 0) + k]? := by
  unfold ringM
  rw [List.getElem?_take_of_lt h, List.getElem?_drop]
theorem drop_last_get {ws : List Int} {i : Nat} (h : i < ws.length - 1) : ws.dropLast[i]? = ws[i]? := by
  rw [List.dropLast_eq_take, List.getElem?_take_of_lt h]
theorem ring_rnd {pan : List (List Int)} {hs ws : List Int} (g : Good pan) (hr : ∀ x ∈ hs, 0 ≤ x ∧ x < (pan.length : Int)) (h : Wlk pan hs ws) (hl : ws.getLastD 0 ∈ ws.dropLast) : Rnd pan (ringM ws) ∧ ∀ x ∈ ringM ws, x ∈ hs := by
  have len0 : ws.dropLast.length = ws.length - 1 := List.length_dropLast
  obtain ⟨i0, hi0⟩ := List.getElem?_of_mem hl
  have li0 := (List.getElem?_eq_some_iff.mp hi0).1
  rw [drop_last_get (by omega)] at hi0
  have hmem : ws.getLastD 0 ∈ ws := List.mem_of_getElem? hi0
  have hj := idx_get hmem
  have jle : ws.idxOf (ws.getLastD 0) ≤ i0 := Nat.le_of_not_lt fun z => idx_no z hi0
  generalize hjj : ws.idxOf (ws.getLastD 0) = j at hj jle
  have rlen : (ringM ws).length = ws.length - 1 - j := by unfold ringM; rw [List.length_take, List.length_drop, hjj]; omega
  have rget : ∀ k, k < ws.length - 1 - j → (ringM ws)[k]? = ws[j + k]? := fun k hk => by
    have := ring_get (ws := ws) (k := k) (by rw [hjj]; exact hk)
    rw [hjj] at this; exact this
  have lst := last_get h.ne
  have hlast : ws.getLastD 0 ∈ hs := h.mem _ hmem
  have lr := hr _ hlast
  have two : 2 ≤ ws.length - 1 - j := by
    rcases Nat.lt_or_ge (ws.length - 1 - j) 2 with q | q
    · have e : j + 1 = ws.length - 1 := by omega
      have := h.link j _ _ hj (by rw [e]; exact lst)
      exact absurd this (g.own' lr.1 lr.2)
    · exact q
  refine ⟨⟨by omega, ?_, fun i x y hx hy => ?_, fun x y hx hy => ?_⟩, fun x hx => ?_⟩
  · have e : ringM ws = (ws.dropLast.drop j) := by
      unfold ringM
      rw [hjj, List.dropLast_eq_take, List.drop_take]
    rw [e]
    exact h.nd.sublist (List.drop_sublist _ _)
  · have l1 := (List.getElem?_eq_some_iff.mp hy).1
    rw [rget i (by omega)] at hx
    rw [rget (i + 1) (by omega)] at hy
    exact h.link (j + i) x y hx hy
  · rw [rlen, rget _ (by omega)] at hx
    rw [rget 0 (by omega), Nat.add_zero, hj] at hy
    rw [← Option.some.inj hy]
    refine h.link (j + (ws.length - 1 - j - 1)) x _ hx ?_
    rw [show j + (ws.length - 1 - j - 1) + 1 = ws.length - 1 by omega]; exact lst
  · unfold ringM at hx
    exact h.mem x (List.mem_of_mem_drop (List.mem_of_mem_take hx))
theorem turn_rnd {pan : List (List Int)} {l : List Int} (h : Rnd pan l) : Rnd pan (turnM l) ∧ (∀ x, x ∈ turnM l ↔ x ∈ l) ∧ (turnM l)[0]? = some (minI l) := by
  have hne : l ≠ [] := fun e => by have := h.two; rw [e] at this; simp at this
  have hm := (minI_spec hne).1
  have hg := idx_get hm
  have hlt := List.idxOf_lt_length_of_mem hm
  unfold turnM
  generalize l.idxOf (minI l) = m at hg hlt
  have two := h.two
  have get1 : ∀ k, k < l.length - m → (l.drop m ++ l.take m)[k]? = l[m + k]? := fun k hk => by
    rw [List.getElem?_append_left (by rw [List.length_drop]; exact hk), List.getElem?_drop]
  have get2 : ∀ k, l.length - m ≤ k → k < l.length → (l.drop m ++ l.take m)[k]? = l[k - (l.length - m)]? := fun k h1 h2 => by
    rw [List.getElem?_append_right (by rw [List.length_drop]; exact h1), List.length_drop, List.getElem?_take_of_lt (by omega)]
  have tl : (l.drop m ++ l.take m).length = l.length := by rw [List.length_append, List.length_drop, List.length_take]; omega
  refine ⟨⟨by omega, ?_, fun i x y hx hy => ?_, fun x y hx hy => ?_⟩, fun x => ?_, ?_⟩
  · have : (l.take m ++ l.drop m).Nodup := by rw [List.take_append_drop]; exact h.nd
    exact (List.perm_append_comm.nodup_iff).mp this
  · have ly := (List.getElem?_eq_some_iff.mp hy).1
    rw [tl] at ly
    rcases Nat.lt_trichotomy (i + 1) (l.length - m) with q | q | q
    · rw [get1 i (by omega)] at hx
      rw [get1 (i + 1) q] at hy
      exact h.link (m + i) x y hx hy
    · rw [get1 i (by omega), show m + i = l.length - 1 by omega] at hx
      rw [get2 (i + 1) (by omega) ly, show i + 1 - (l.length - m) = 0 by omega] at hy
      exact h.back x y hx hy
    · rw [get2 i (by omega) (by omega)] at hx
      rw [get2 (i + 1) (by omega) ly, show i + 1 - (l.length - m) = (i - (l.length - m)) + 1 by omega] at hy
      exact h.link _ x y hx hy
  · rw [tl] at hx
    rw [get1 0 (by omega), Nat.add_zero] at hy
    by_cases hm0 : m = 0
    · subst hm0
      rw [get1 _ (by omega), Nat.zero_add] at hx
      exact h.back x y hx hy
    · rw [get2 _ (by omega) (by omega), show l.length - 1 - (l.length - m) = m - 1 by omega] at hx
      refine h.link (m - 1) x y hx ?_
      rw [show m - 1 + 1 = m by omega]; exact hy
  · have := List.take_append_drop m l
    rw [List.mem_append]
    constructor
    · intro q; exact q.elim List.mem_of_mem_drop List.mem_of_mem_take
    · intro q
      rw [← this] at q
      exact (List.mem_append.mp q).symm
  · rw [get1 0 (by omega), Nat.add_zero]; exact hg
end Pr
namespace Pr
open PySem PySem.Spec PyProof.Rows L2
/-! row_for, step by step: which row it finds -/
def UseF (pan : List (List Int)) (v : List Str) (t : List Int) (x : Nat) : Prop := effM pan ((x : Int) :: t) ≠ effM pan t ∧ partB (effM pan ((x : Int) :: t)) v = true
inductive Gr (pan : List (List Int)) (v : List Str) : List Int → Prop
  | nil : Gr pan v []
  | cons {t : List Int} {b : Nat} (h : Gr pan v t) (ne : effM pan t ≠ v) (u : UseF pan v t b) (f : ∀ y : Nat, y < b → ¬ UseF pan v t y) : Gr pan v ((b : Int) :: t)
section
variable {pan : List (List Int)} {v : List Str}
theorem Gr.suf : ∀ (u : List Int), Gr pan v u → ∀ t, Gr pan v t → t.length ≤ u.length → ∃ s, u = s ++ t
  | [], _, t, _, hl => by
    cases t with
    | nil => exact ⟨[], rfl⟩
    | cons _ _ => exact absurd hl (by simp)
  | c :: u, hu, t, ht, hl => by
    cases hu with
    | cons h ne us f =>
      rcases Nat.lt_or_ge u.length t.length with hlt | hge
      · cases ht with
        | nil => exact absurd hlt (by simp)
        | cons h' ne' us' f' =>
          rename_i t' b' 
          obtain ⟨s, e⟩ := Gr.suf u h t' h' (by simp only [List.length_cons] at hl; omega)
          have hs : s = [] := by
            have := congrArg List.length e
            rw [List.length_append] at this
            simp only [List.length_cons] at hlt hl
            exact List.eq_nil_of_length_eq_zero (by omega)
          subst hs
          rw [List.nil_append] at e
          subst e
          rename_i b
          have : b = b' := by
            rcases Nat.lt_trichotomy b b' with h1 | h1 | h1
            · exact absurd us (f' b h1)
            · exact h1
            · exact absurd us' (f b' h1)
          subst this
          exact ⟨[], rfl⟩
      · obtain ⟨s, e⟩ := Gr.suf u h t ht hge
        subst e
        exact ⟨_ :: s, rfl⟩
theorem Gr.inner : ∀ (s : List Int) (t : List Int), s ≠ [] → Gr pan v (s ++ t) → effM pan t ≠ v
  | [], _, h, _ => absurd rfl h
  | [c], t, _, h => by
    cases h with
    | cons _ ne _ _ => exact ne
  | c :: d :: s, t, _, h => by
    cases h with
    | cons h _ _ _ => exact Gr.inner (d :: s) t (by simp) h
theorem Gr.uniq {t u : List Int} (ht : Gr pan v t) (et : effM pan t = v) (hu : Gr pan v u) (eu : effM pan u = v) : t = u := by
  rcases Nat.le_total t.length u.length with hl | hl
  · obtain ⟨s, e⟩ := Gr.suf u hu t ht hl
    by_cases hs : s = []
    · rw [e, hs]; rfl
    · exact absurd et (Gr.inner s t hs (e ▸ hu))
  · obtain ⟨s, e⟩ := Gr.suf t ht u hu hl
    by_cases hs : s = []
    · rw [e, hs]; rfl
    · exact absurd eu (Gr.inner s u hs (e ▸ ht))
end
/-! the effect that leads to a goal -/
def towM (pan : List (List Int)) (goal hs G : List Int) : List Str := (List.range pan.length).map fun x : Nat => if (x : Int) ∈ goal ∧ (x : Int) ∉ hs then wOn else if (x : Int) ∈ G then wOff else wSame
theorem tow_len {pan : List (List Int)} {goal hs G : List Int} : (towM pan goal hs G).length = pan.length := by unfold towM; rw [List.length_map, List.length_range]
theorem tow3 {pan : List (List Int)} {goal hs G : List Int} {x : Str} (h : x ∈ towM pan goal hs G) : x = wSame ∨ x = wOn ∨ x = wOff := by
  unfold towM at h
  obtain ⟨c, _, rfl⟩ := List.mem_map.mp h
  split
  · exact .inr (.inl rfl)
  · split
    · exact .inr (.inr rfl)
    · exact .inl rfl
section
variable {pan : List (List Int)} {goal hs G : List Int}
theorem row_ok (own : ∀ (i : Nat) (l : List Int), pan[i]? = some l → (i : Int) ∉ l) (hh : IsHeld pan goal hs) (hG : IsGath pan goal hs G) : ∀ {row st : List Int}, (∀ b ∈ row, InP pan b) → runM pan st row = goal → ∀ b ∈ row, PrOk pan goal hs G b := by
  intro row
  induction row with
  | nil => intro st _ _ b hb; cases hb
  | cons a r ih =>
    intro st hin hrun b hb
    rw [runM_cons] at hrun
    have ha := hin a List.mem_cons_self
    have hst2 : Asc pan.length (pressM pan st a) := pressM_asc _ _ _
    have hin2 : ∀ b ∈ r, InP pan b := fun b hb => hin b (List.mem_cons_of_mem _ hb)
    rcases List.mem_cons.mp hb with rfl | hb
    · have can := can_of_run own hh hG hst2 hin2 hrun
      have selfN : b ∉ relM pan b := by
        have hl : b.toNat < pan.length := by have := ha; unfold InP at this; omega
        have := own b.toNat pan[b.toNat] (List.getElem?_eq_getElem hl)
        unfold relM
        rw [List.getD_eq_getElem?_getD, List.getElem?_eq_getElem hl]
        rw [Int.toNat_of_nonneg ha.1] at this
        exact this
      have hfree : ∀ x ∈ relM pan b, x ∉ hs := fun x hx hxs => by
        rcases (mem_pressM.mp (can.1 x hxs)).2 with rfl | ⟨_, h2⟩
        · exact selfN hx
        · exact h2 hx
      have hb2 : b ∈ pressM pan st b := mem_pressM.mpr ⟨ha, .inl rfl⟩
      have hnot : b ∉ hs := fun hbs => by
        obtain ⟨c, h1, h2⟩ := hh.closed b hbs
        exact hfree c h1 h2
      rcases can.2 b hb2 with h | h
      · exact .inl ⟨h, hnot⟩
      · exact .inr ⟨h, hfree⟩
    · exact ih hin2 hrun b hb
theorem tow_get {c : Nat} (hc : c < pan.length) {row : List Int} (e : effM pan row = towM pan goal hs G) : wordsM pan row (c : Int) = if (c : Int) ∈ goal ∧ (c : Int) ∉ hs then wOn else if (c : Int) ∈ G then wOff else wSame := by
  have h1 := eff_get (row := row) hc
  rw [e] at h1
  unfold towM at h1
  rw [List.getElem?_map, List.getElem?_range hc] at h1
  exact (Option.some.inj h1).symm
/-- some row has the effect that leads to the goal -/
theorem tow_some (g : Good pan) (hh : IsHeld pan goal hs) (hG : IsGath pan goal hs G) (hg : Asc pan.length goal) : ∃ row : List Int, (∀ b ∈ row, InP pan b) ∧ effM pan row = towM pan goal hs G := by
  obtain ⟨sg, st, mst⟩ : ∃ sg : List Int, Asc pan.length sg ∧ ∀ x, x ∈ sg ↔ x ∈ hs ∨ x ∈ G := by
    refine ⟨_, Asc.filter pan.length (fun x => decide (x ∈ hs ∨ x ∈ G)), fun x => ?_⟩
    rw [List.mem_filter, decide_eq_true_eq]
    refine ⟨fun z => z.2, fun z => ⟨?_, z⟩⟩
    have hx : InP pan x := z.elim (fun h => hg.rng x (hh.sub x h)) (fun h => hG.rng x h)
    exact mem_intL.mpr hx
  obtain ⟨row, hin, hrun⟩ := run_of_can hh hG hg st ⟨fun x hx => (mst x).mpr (.inl hx), fun x hx => ((mst x).mp hx).imp_left (hh.sub x)⟩
  have ok := row_ok g.own hh hG hin hrun
  refine ⟨row, hin, ?_⟩
  unfold effM towM
  refine List.map_congr_left fun c hc => ?_
  have hc := List.mem_range.mp hc
  have mr := memRun (pan := pan) (row := row) (st := sg) (c := (c : Int)) (by omega) (by omega)
  rw [hrun] at mr
  have hmet : ¬ metB pan row (c : Int) → wordsM pan row (c : Int) = wSame := words_iff.mpr
  by_cases h1 : (c : Int) ∈ goal ∧ (c : Int) ∉ hs
  · rw [if_pos h1]
    rcases mr.mp h1.1 with h | ⟨_, h⟩
    · exact h
    · rcases (mst _).mp h with h | h
      · exact absurd h h1.2
      · exact absurd h1.1 (hG.out _ h)
  · rw [if_neg h1]
    by_cases h2 : (c : Int) ∈ G
    · rw [if_pos h2]
      have nn : ¬ (wordsM pan row (c : Int) = wOn ∨ (wordsM pan row (c : Int) = wSame ∧ (c : Int) ∈ sg)) := fun z => hG.out _ h2 (mr.mpr z)
      rcases word3 pan (c : Int) row with h | h | h
      · exact absurd (.inr ⟨h, (mst _).mpr (.inr h2)⟩) nn
      · exact absurd (.inl h) nn
      · exact h
    · rw [if_neg h2]
      refine hmet fun hm => ?_
      rcases hm with hm | ⟨b, hb, hm⟩
      · rcases ok _ hm with h | h
        · exact h1 h
        · exact h2 h.1
      · by_cases hcg : (c : Int) ∈ goal
        · have : (c : Int) ∈ hs := Classical.byContradiction fun z => h1 ⟨hcg, z⟩
          exact (ok b hb).free hh _ hm this
        · exact h2 (hG.clos b (ok b hb) _ hm hcg)
/-- such a row leads to the goal -/
theorem tow_run (hh : IsHeld pan goal hs) (hG : IsGath pan goal hs G) (hg : Asc pan.length goal) {st row : List Int} (hst : Asc pan.length st) (can : CanG goal hs G st) (e : effM pan row = towM pan goal hs G) : runM pan st row = goal := by
  refine asc_ext (runM_asc hst).up hg.up fun x => ?_
  by_cases hx : 0 ≤ x ∧ x < (pan.length : Int)
  · obtain ⟨c, rfl⟩ : ∃ c : Nat, x = (c : Int) := ⟨x.toNat, (Int.toNat_of_nonneg hx.1).symm⟩
    have hc : c < pan.length := by omega
    rw [memRun hx.1 hx.2, tow_get hc e]
    by_cases h1 : (c : Int) ∈ goal ∧ (c : Int) ∉ hs
    · rw [if_pos h1]
      exact ⟨fun _ => h1.1, fun _ => .inl rfl⟩
    · rw [if_neg h1]
      by_cases h2 : (c : Int) ∈ G
      · rw [if_pos h2]
        exact ⟨fun z => z.elim (fun z => absurd z (by decide)) fun z => absurd z.1 (by decide), fun z => absurd z (hG.out _ h2)⟩
      · rw [if_neg h2]
        refine ⟨fun z => z.elim (fun z => absurd z (by decide)) fun z => (can.2 _ z.2).elim id fun h => absurd h h2, fun z => .inr ⟨rfl, can.1 _ (Classical.byContradiction fun q => h1 ⟨z, q⟩)⟩⟩
  · exact ⟨fun z => absurd ((runM_asc hst).rng x z) hx, fun z => absurd (hg.rng x z) hx⟩
/-- what nothing can release -/
theorem stuck_ok (hh : IsHeld pan goal hs) (hG : IsGath pan goal hs G) {ms : List Int} (hm : ∀ x, x ∈ ms ↔ InP pan x ∧ x ∉ goal ∧ x ∉ G) {o : Int} (ho : InP pan o) (hr : ∃ x ∈ relM pan o, x ∈ ms) (h1 : o ∉ hs) (h2 : o ∉ ms) : o ∉ goal ∧ ∃ x ∈ relM pan o, x ∈ hs := by
  obtain ⟨x, hx, hxm⟩ := hr
  obtain ⟨_, m1, m2⟩ := (hm x).mp hxm
  have hn : ¬ PrOk pan goal hs G o := fun h => m2 (hG.clos o h x hx m1)
  have hog : o ∉ goal := fun h => hn (.inl ⟨h, h1⟩)
  have hoG : o ∈ G := Classical.byContradiction fun z => h2 ((hm o).mpr ⟨ho, hog, z⟩)
  refine ⟨hog, Classical.byContradiction fun z => hn (.inr ⟨hoG, fun x hx hxs => z ⟨x, hx, hxs⟩⟩)⟩
theorem gath_mem_uniq {G' : List Int} (hG : IsGath pan goal hs G) (hG' : IsGath pan goal hs G') : ∀ x, x ∈ G → x ∈ G' := by
  obtain ⟨r, _, hr⟩ := hG.rank
  have : ∀ n : Nat, ∀ x ∈ G, r x ≤ n → x ∈ G' := by
    intro n
    induction n with
    | zero =>
      intro x hx hn
      obtain ⟨b, ok, hb, h⟩ := hr x hx
      rcases h with h | h
      · refine hG'.clos b ?_ x hb (hG.out x hx)
        rcases ok with o | o
        · exact .inl o
        · exact absurd h (hG.out b o.1)
      · omega
    | succ n ih =>
      intro x hx hn
      obtain ⟨b, ok, hb, h⟩ := hr x hx
      refine hG'.clos b ?_ x hb (hG.out x hx)
      rcases ok with o | o
      · exact .inl o
      · rcases h with h | h
        · exact absurd h (hG.out b o.1)
        · exact .inr ⟨ih b o.1 (by omega), o.2⟩
  exact fun x hx => this (r x) x hx (Nat.le_refl _)
end
end Pr
namespace Pr
open PySem PySem.SeqAt PySem.AutoSeq1
open MeetsSeq
section
variable {P : Program} {w : World} {A : Around} {E : Value → Shared → Prop} {s : Shared}
/-- dict == another kind: it declines -/
theorem dict_no {name : Str} {a : Addr} {b : Value} {T : String} {Q : Value → Shared → Prop} (sl : Slot "dict" name "dict.__eq__") (da : s.TypeIs (.ref a) "dict") (db : s.TypeIs b T) (hs : isSubtype (.type T) (.type "dict") = pure false) (h : Q .notImplemented s) :
    wpAny (model P w) A (call (.builtin "dict.__eq__") [.ref a, b]) Q E s := by
  refine wpAny_call_entry sl da PySem.F.entry_dict_eq ?_ (PySem.F.args_dict_eq_2 _ _)
  unfold Builtin.«dict.__eq__»
  show wpAny _ _ (Builtin.Dict.dictSlotArgs "__eq__" ⟨[.ref a, b], []⟩ >>= _) _ _ s
  refine wpAny_bind ?_
  unfold Builtin.Dict.dictSlotArgs
  refine wpAny_bind (wpAny_notOrdered_dict da ?_)
  show wpAny _ _ (pure (Value.ref a, b)) _ _ s
  refine wpAny_pure ?_
  refine wpAny_bind (wpAny_isInstance (T := T) db hs ?_)
  simp only [Bool.not_false, if_true]
  refine wpAny_bind (wpAny_rule ?_)
  exact wpAny_bind (wpAny_pure (wpAny_pure ⟨_, rfl, h⟩))
theorem str_eq_declines_dict (b : Str) (u : Tok) (l : Addr) (c : Value) (es : Array DictEntry) (n : Nat) (dd : Option Addr) (sl : Array (Option Value)) :
    Meets (Builtin.«str.__eq__» ⟨[.str b u, .ref l], []⟩) (fun _ R s => s.heap.get? l = some { cls := c, dict := dd, data := .dict es n, slots := sl } ∧ R (.ok (.ret .notImplemented)) s) :=
  .of_wp fun prog w A R s h => by obtain ⟨hp, g, d, tk, os⟩ := s; obtain ⟨hl, h⟩ := h; wp_walk using wpAny_loadPart' hl, wpAny_load hl; exact ⟨_, rfl, h⟩
theorem tuple_eq_declines_dict (l b : Addr) (items : Array Value) (n n2 : Nat) (dd dd2 : Option Addr) (sl sl2 : Array (Option Value)) (es : Array DictEntry) :
    Meets (Builtin.«tuple.__eq__» ⟨[.ref l, .ref b], []⟩) (fun _ R s => s.heap.get? l = some { cls := .type "tuple", dict := dd, data := .seq items n, slots := sl } ∧ s.heap.get? b = some { cls := .type "dict", dict := dd2, data := .dict es n2, slots := sl2 } ∧ R (.ok (.ret .notImplemented)) s) :=
  .of_wp fun prog w A R s h => by obtain ⟨hp, g, d, tk, os⟩ := s; obtain ⟨hl, hb, h⟩ := h; have f1 := F.sub_dict_tuple; wp_walk using wpAny_loadPart' hl, wpAny_loadPart' hb; exact ⟨_, rfl, h⟩
end
section
variable {A : Around} {s : Shared} {l : Addr} {o : Obj} {es : Array DictEntry} {n : Nat}
theorem rc_str_dict (b : Str) (u : Tok) (ho : s.heap.get? l = some o) (hc : o.cls = .type "dict") (hd : o.data = .dict es n) (hu : A.units < cLine) : RcAt A s (.str b u) (.ref l) false := fun prog w E Q h => by
  obtain ⟨cls, dd, data, sl⟩ := o
  simp only at hc hd
  subst hc hd
  exact rc_eq_decline_or (k := false) (typeIs_str s b u) ⟨_, ho, rfl⟩ (by decide) F.sub_dict_str F.slot_str_eq F.slot_dict_eq_refl
    (fun _ hq => call_meets F.slot_str_eq (typeIs_str s b u) F.entry_str_eq (F.args_str_eq_2 _ _) (str_eq_declines_dict b u l (.type "dict") es n dd sl) ⟨ho, hq⟩)
    (fun _ hq => dict_no F.slot_dict_eq_refl ⟨_, ho, rfl⟩ (typeIs_str s b u) F.sub_str_dict hq)
    (fun _ hq => wpAny_of_eq (rfl : isSame (.str b u) (.ref l) = pure false) hq) (.inr hu) h
theorem eq_str_dict (b : Str) (u : Tok) (ho : s.heap.get? l = some o) (hc : o.cls = .type "dict") (hd : o.data = .dict es n) (hu : A.units < cLine) : EqAt A s (.str b u) (.ref l) false := fun prog w E Q h => by
  unfold eqBool
  refine wpAny_holding ?_
  refine wpAny_ite_split (fun hab => absurd (eq_of_beq hab) nofun) (fun _ => ?_)
  exact wpAny_bind (rc_str_dict b u ho hc hd hu prog w E _ (wpAny_truthy_bool h))
theorem rc_dict_tuple {b : Addr} {items : Array Value} (ho : s.heap.get? l = some o) (hc : o.cls = .type "dict") (hd : o.data = .dict es n) (hb : s.heap.IsTuple b items) (hu : A.units < cLine) : RcAt A s (.ref l) (.ref b) false := fun prog w E Q h => by
  have hne : l ≠ b := fun e => by
    subst e
    obtain ⟨o2, ho2, hc2, _⟩ := hb
    rw [ho] at ho2
    cases ho2
    rw [hc] at hc2
    exact absurd hc2 (by simp)
  obtain ⟨cls, dd, data, sl⟩ := o
  obtain ⟨⟨cls2, dd2, data2, sl2⟩, ho2, hc2, n2, hd2⟩ := id hb
  simp only at hc hd hc2 hd2
  subst hc hd hc2 hd2
  exact (rc_eq_decline_or (k := false) ⟨_, ho, rfl⟩ ⟨_, ho2, rfl⟩ (by decide) F.sub_tuple_dict F.slot_dict_eq F.slot_tuple_eq_refl
    (fun _ hq => dict_no F.slot_dict_eq ⟨_, ho, rfl⟩ ⟨_, ho2, rfl⟩ F.sub_tuple_dict hq)
    (fun _ hq => call_meets F.slot_tuple_eq_refl ⟨_, ho2, rfl⟩ F.entry_tuple_eq (F.args_tuple_eq_2 _ _) (tuple_eq_declines_dict b l items n2 n dd2 dd sl2 sl es) ⟨ho2, ho, hq⟩)
    (fun _ hq => wpAny_isSame_ref_other hne ho ho2 (by simp) hq) (.inr hu) h)
end
end Pr
namespace Pr
open PySem PySem.Spec PyProof.Rows L2
/-- word in a tuple of words, for data of any kind -/
def wIn (d : PyData) (ws : List Str) : Bool := match d with | .str x => decide (x ∈ ws) | _ => false
def wEq (d : PyData) (z : Str) : Bool := match d with | .str x => z == x | _ => false
def wEqU (d : PyData) : Value → Bool
  | .str z _ => wEq d z
  | _ => false
theorem any_wEq {H : Hp} (d : PyData) : ∀ {ws : List Str} {us : List Value}, Vals (ws.map V.str) us → us.any (wEqU d) = wIn d ws
  | [], _, .nil => by cases d <;> rfl
  | z :: ws, u :: us, .cons r t => by
    obtain ⟨tk, rfl⟩ := r
    rw [List.any_cons, any_wEq (H := H) d t]
    cases d with
    | str x =>
      show ((z == x) || decide (x ∈ ws)) = decide (x ∈ z :: ws)
      rw [Bool.eq_iff_iff, Bool.or_eq_true, beq_iff_eq, decide_eq_true_eq, decide_eq_true_eq, List.mem_cons]
      exact ⟨fun h => h.imp (fun e => e.symm) id, fun h => h.imp (fun e => e.symm) id⟩
    | _ => rfl
section
variable {X : Cx} {pins : List (Addr × Obj)} {σ : L2.St} {H : Hp} {s : Shared} {N : Addr → Prop}
theorem eqAt_word {A : Around} (hu : A.units < cLine) (I : Inv X pins σ H s) {v : V} {u : Value} {d : PyData} (h : Dq X.K N H v d) (r : RelV v u) (z : Str) (t : Tok) : SeqAt.EqAt A s (.str z t) u (wEq d z) := by
  cases h with
  | non => cases r; exact SeqAt.EqAt.str_none z t
  | bl b => cases r; exact SeqAt.EqAt.str_bool z t b
  | int i => obtain ⟨t', rfl⟩ := r; exact SeqAt.EqAt.str_int z t i t'
  | str x => obtain ⟨t', rfl⟩ := r; exact SeqAt.EqAt.str_str z t x t'
  | lst _ _ e _ =>
    cases r
    obtain ⟨its, _, pl, _⟩ := I.list (.inl (.inl e))
    exact SeqAt.EqAt.str_list z t pl.isList hu
  | tup e _ =>
    cases r
    obtain ⟨its, _, pl, _⟩ := I.tuple e
    exact SeqAt.EqAt.str_tuple z t pl hu
  | dct0 e =>
    cases r
    obtain ⟨_, ns, vs, kv, o, es, ep, ho, hc, hd, _, hp, _⟩ := I.hok _ _ e
    exact eq_str_dict z t ho hc.1 hd hu
  | dct1 e =>
    cases r
    obtain ⟨_, ns, vs, kv, o, es, ep, ho, hc, hd, _, hp, _⟩ := I.hok _ _ e
    exact eq_str_dict z t ho hc.1 hd hu
  | dctN e =>
    cases r
    obtain ⟨_, ns, vs, kv, o, es, ep, ho, hc, hd, _, hp, _⟩ := I.hok _ _ e
    exact eq_str_dict z t ho hc.1 hd hu
  | dct2 e =>
    cases r
    obtain ⟨_, ns, vs, kv, o, es, ep, ho, hc, hd, _, hp, _⟩ := I.hok _ _ e
    exact eq_str_dict z t ho hc.1 hd hu
end
def rInW (K : PySem.W.Frag) : R2 := fun x y H Q => ∃ (N : Addr → Prop) (d : PyData) (p : Addr) (ws : List Str), y = .ref p ∧ SqT K H p (ws.map V.str) ∧ Dq K N H x d ∧ Q (.bl (wIn d ws)) H
theorem op_inW {X : Cx} (hu : X.A.units + 1 < cLine) : OpR X (compareOp .In) (rInW X.K) := by
  intro pins s σ H x y v u Q I rx ry h
  obtain ⟨N, d, p, ws, rfl, hq, hd, q⟩ := h
  cases ry
  obtain ⟨its, r, pl, hz⟩ := I.tuple hq
  have mem : ∀ w ∈ its, ∃ z t, w = Value.str z t := fun w hw => by
    have : ∀ {ws : List Str} {us : List Value}, Vals (ws.map V.str) us → ∀ w ∈ us, ∃ z t, w = Value.str z t := fun {ws} => by
      induction ws with
      | nil => intro us r w hw; cases r; cases hw
      | cons z ws ih =>
        intro us r w hw
        cases r with
        | cons r1 r2 =>
          rcases List.mem_cons.mp hw with rfl | hw
          · obtain ⟨t, rfl⟩ := r1; exact ⟨_, _, rfl⟩
          · exact ih r2 w hw
    exact this r w hw
  refine SeqAt.in_tupleAt (wEqU d) pl (fun w hw => ?_) ⟨.bl _, H, I, rfl, ?_⟩
  · obtain ⟨z, t, rfl⟩ := mem w (by simpa using hw)
    exact eqAt_word (A := X.A.in1) (by show X.A.units + 1 < cLine; exact hu) I hd rx z t
  · rw [show its.toArray.any (wEqU d) = its.any (wEqU d) by simp, any_wEq (H := H) d r]
    exact q
/-- a == b: data, or a dict against a tuple -/
def rEqDD (K : PySem.W.Frag) : R2 := fun x y H Q => rEqD K x y H Q ∨ ∃ (l b : Addr) (kvs : List (Key × V)) (xs : List V), x = .ref l ∧ y = .ref b ∧ H l = some (.dK kvs) ∧ SqT K H b xs ∧ Q (.bl false) H
theorem op_eqDD {X : Cx} (hu : X.A.units + 64 < cLine) : OpR X (compareOp .Eq) (rEqDD X.K) := by
  intro pins s σ H x y v u Q I rx ry h
  rcases h with h | ⟨l, b, kvs, xs, rfl, rfl, e, hq, q⟩
  · exact op_eqD hu pins s σ H x y v u Q I rx ry h
  · cases rx
    cases ry
    obtain ⟨_, ns, vs, kv, o, es, ep, ho, hc, hd, _, hp, _⟩ := I.hok _ _ e
    obtain ⟨its, _, pl, _⟩ := I.tuple hq
    exact rc_dict_tuple ho hc.1 hd pl (by omega) X.prog X.w X.xe _ ⟨.bl false, H, I, rfl, q⟩
end Pr
namespace K14
open PySem PySem.Spec PyProof.Rows L2 Pr
theorem scBehind : FnScope ["panel", "effect", "button"] ["panel", "effect", "button"] (defScope sBehind) := ⟨rfl, rfl, rfl, by decide +kernel, rfl, by decide +kernel, by decide +kernel⟩
def nPart : List Str := ["effect", "wanted", "word", "other"]
theorem scPart : FnScope nPart ["effect", "wanted"] (defScope sPart) := ⟨rfl, rfl, rfl, by decide +kernel, rfl, by decide +kernel, by decide +kernel⟩
def nWords : List Str := ["value", "many", "word"]
theorem scWords : FnScope nWords ["value", "many"] (defScope sWords) := ⟨rfl, rfl, rfl, by decide +kernel, rfl, by decide +kernel, by decide +kernel⟩
theorem scUse : FnScope ["panel", "effect", "wanted", "button", "more"] ["panel", "effect", "wanted"] (defScope sUse) := ⟨rfl, rfl, rfl, by decide +kernel, rfl, by decide +kernel, by decide +kernel⟩
theorem scFor : FnScope ["panel", "value", "row", "effect", "button"] ["panel", "value"] (defScope sFor) := ⟨rfl, rfl, rfl, by decide +kernel, rfl, by decide +kernel, by decide +kernel⟩
section
variable {P : Program} {w : World} {K : PySem.W.Frag} {mg : Str → Option Value} {base : Heap}
def spBehind (K : PySem.W.Frag) : Sp := fun vs H Q _ => ∃ (p t : Addr) (pan : List (List Int)) (xs : List Str) (b : Int), vs = [.ref p, .ref t, .int b] ∧ PanT K H p pan ∧ Good pan ∧ SqT K H t (xs.map V.str) ∧ xs.length = pan.length ∧ 0 ≤ b ∧ b < (pan.length : Int) ∧
  ∀ H' u, Same H H' → H' u = some (.tup ((joinM (pressW pan b) xs).map V.str)) → Q (.ref u) H'
theorem ok_behind {f fN fP fJ : Addr} {fd fdN fdP fdJ : FuncData} {k : Nat} (F : Fun K "effect_behind_press" "effect_behind_press" sBehind f fd) (FN : Fun K "no_effect" "no_effect" sNo fN fdN) (bN : Binds K fdN ["panel"] []) (gN : mg "no_effect" = some (.ref fN))
    (FP : Fun K "press_effect" "press_effect" sPressE fP fdP) (bP : Binds K fdP ["panel", "button"] []) (gP : mg "press_effect" = some (.ref fP))
    (FJ : Fun K "joined_effect" "joined_effect" sJoin fJ fdJ) (bJ : Binds K fdJ ["first", "second"] []) (gJ : mg "joined_effect" = some (.ref fJ))
    (ml : mg "len" = none) (mli : mg "list" = none) (mt : mg "tuple" = none) (mz : mg "zip" = none) : FnOk P w K mg base CX0 (k + 3) f fd ["panel", "effect", "button"] (spBehind K) := by
  have GP : FnOk P w K mg base CX0 (k + 2) fP fdP ["panel", "button"] (spPressE K) := ok_pressE FP FN bN gN ml mli mt
  have GJ : FnOk P w K mg base CX0 (k + 2) fJ fdJ ["first", "second"] (spJoin K) := ok_join FJ mz mt
  refine F.ok scBehind (fun vs H Q E h => ?_) (fun cdv A outer s H vs Q E hr h => ?_)
  · obtain ⟨p, t, pan, xs, b, rfl, _⟩ := h
    rfl
  · obtain ⟨p, t, pan, xs, b, rfl, hp, hg, ht, hxl, b0, b1, q⟩ := h
    refine ⟨_, pss_one (ps_ret (pe_call GJ hr (by rfl) gJ FJ.kp bJ .nil pass0 (pa_cons (pe_call GP hr (by rfl) gP FP.kp bP .nil pass0 (pa_cons (pv 0) (pa_cons (pv 2) pa_nil))) (pa_cons (pv 1) pa_nil)))), ?_⟩
    have few := hg.few
    refine ⟨.ref p, rfl, .int b, rfl, p, pan, b, rfl, hp, hg, b0, b1, fun H1 u s1 eu => ?_⟩
    exact ⟨.ref t, rfl, u, t, pressW pan b, xs, rfl, .inl (.inl eu), same_sqT s1 ht, by rw [pressW_len, hxl], by omega, fun H2 v s2 ev => q _ v (s1.trans s2) ev⟩

def spPart (K : PySem.W.Frag) : Sp := fun vs H Q _ => ∃ (a b : Addr) (xs ys : List Str), vs = [.ref a, .ref b] ∧ SqT K H a (xs.map V.str) ∧ SqT K H b (ys.map V.str) ∧ xs.length = ys.length ∧ ys.length ≤ 100 ∧
  ∀ H', Same H H' → Q (.bl (partB xs ys)) H'
theorem ok_part {f : Addr} {fd : FuncData} {k : Nat} (F : Fun K "is_part" "is_part" sPart f fd) (mz : mg "zip" = none) (mal : mg "all" = none) : FnOk P w K mg base CX0 (k + 1) f fd ["effect", "wanted"] (spPart K) := by
  refine F.ok scPart (fun vs H Q E h => ?_) (fun cdv A outer s H vs Q E hr h => ?_)
  · obtain ⟨a, b, xs, ys, rfl, _⟩ := h
    rfl
  · obtain ⟨a, b, xs, ys, rfl, ha, hb, hl, few, q⟩ := h
    refine ⟨_, pss_one (ps_ret (pe_callB (cr_all rfl) (by rfl) mal (by decide +kernel) (pa_cons
      (pe_lc (own := [("word", 2), ("other", 3)]) (g := gTup K 2 (gCons (gName 2) (gCons (gName 3) gNil))) (tt := tYes) rfl scPart.nd (RZ.pi_zipA (by rfl) mz (pa_cons (pv 0) (pa_cons (pv 1) pa_nil)))
        (blkOk_by (own := [("word", 2), ("other", 3)]) (N := nPart) (sc := defScope sPart) (by decide +kernel))
        (fun _ _ _ _ _ => pg_tup rfl (pgs_cons (pg_name (i := 2) scPart.nd rfl (Or.inl rfl)) (pgs_cons (pg_name (i := 3) scPart.nd rfl (Or.inl rfl)) pgs_nil)))
        (fun _ _ _ _ _ => pts_nil)
        (fun _ _ _ _ _ => pe_cmpR (show OpR _ _ (rIn K false) from op_in_seq) (pv 2) (pe_tup (pa_cons pe_str (pa_cons (pv 3) pa_nil))) (by rfl))) pa_nil))), ?_⟩
    refine ⟨.ref a, rfl, .ref b, rfl, a, b, _, _, rfl, .inr ⟨ha, hb, fun D nD => ?_⟩⟩
    unfold partB at q
    have hzl : (List.zipWith (fun a b => decide (a = wSame ∨ a = b)) xs ys).length = ys.length := by rw [List.length_zipWith, hl, Nat.min_self]
    generalize hzs : List.zipWith (fun a b => decide (a = wSame ∨ a = b)) xs ys = zs at q hzl
    refine lc_it (walk_zipT (n := ys.length) (xs := xs.map V.str) (ys := ys.map V.str) (by rw [List.length_map, List.length_map, hl, Nat.min_self])) (fun i H3 => Same H H3 ∧ H3 D = some (.lst ((zs.take i).map V.bl))) ⟨same_new nD, upd_same⟩
      (fun i H3 _ hP => ⟨same_sqT hP.1 ha, same_sqT hP.1 hb⟩) (fun i x H3 H4 hi hP hY => ?_) (fun H3 hP => ?_)
    · obtain ⟨s3, eD⟩ := hP
      obtain ⟨T, x1, x2, rfl, nT, rfl, e1, e2⟩ := hY
      obtain ⟨y1, f1, rfl⟩ := str_get e1
      obtain ⟨y2, f2, rfl⟩ := str_get e2
      have g := zip_part_take f1 f2
      rw [hzs] at g
      have sT : Same H3 (upd H3 T (.tup [.str y1, .str y2])) := same_new nT
      refine ⟨T, _, rfl, .inl (.inl upd_same), rfl, _, _, rfl, _, _, rfl, rfl, rfl, tyes (iteT ⟨.str y1, rfl, .str y2, rfl, by show 2 ≤ sizeLine; decide, fun U nU => ?_⟩)⟩
      have sU := sT.trans (same_new (o := .tup [.str wSame, .str y2]) nU)
      refine ⟨U, [wSame, y2].map V.str, rfl, .inr (.inl (.inl upd_same)), rfl, flat_strs _, _, sU _ _ eD, ?_, ?_, ?_⟩
      · rw [List.length_map, List.length_take]; exact small1000 (by omega)
      · intro b' o e
        rw [upd_ne (ne_of_none e nD)]
        exact sU _ _ (s3 _ _ e)
      · rw [upd_same, if_neg Bool.false_ne_true, inV_strs, List.take_add_one, g, List.map_append]
        have : decide (y1 ∈ [wSame, y2]) = decide (y1 = wSame ∨ y1 = y2) := decide_eq_decide.mpr (by simp)
        rw [this]; rfl
    · obtain ⟨s3, eD⟩ := hP
      rw [List.take_of_length_le (by rw [hzl]; exact Nat.le_refl _)] at eD
      exact ⟨D, _, rfl, .inl (.inl eD), q _ s3⟩

def isWd (d : PyData) : Bool := wIn d [wOn, wOff, wSame]
def wordsB (d : PyData) (n : Nat) : Bool := match d with | .tuple ds => decide (ds.length = n) && ds.all isWd | _ => false
theorem wordsB_some {d : PyData} {n : Nat} (h : wordsB d n = true) : ∃ ws : List Str, d = dStrs ws ∧ ws.length = n ∧ ∀ x ∈ ws, x = wSame ∨ x = wOn ∨ x = wOff := by
  cases d with
  | tuple ds =>
    have h : (decide (ds.length = n) && ds.all isWd) = true := h
    rw [Bool.and_eq_true, decide_eq_true_eq, List.all_eq_true] at h
    have : ∀ ds : List PyData, (∀ x ∈ ds, isWd x = true) → ∃ ws : List Str, ds = ws.map PyData.str ∧ ∀ x ∈ ws, x = wSame ∨ x = wOn ∨ x = wOff := by
      intro ds
      induction ds with
      | nil => intro _; exact ⟨[], rfl, fun _ h => by cases h⟩
      | cons d r ih =>
        intro h
        obtain ⟨ws, rfl, hw⟩ := ih fun x hx => h x (List.mem_cons_of_mem _ hx)
        have hd := h d List.mem_cons_self
        cases d with
        | str x =>
          have hx : x ∈ [wOn, wOff, wSame] := of_decide_eq_true hd
          refine ⟨x :: ws, rfl, fun y hy => ?_⟩
          rcases List.mem_cons.mp hy with rfl | hy
          · simp only [List.mem_cons, List.not_mem_nil, or_false] at hx
            rcases hx with h | h | h
            · exact .inr (.inl h)
            · exact .inr (.inr h)
            · exact .inl h
          · exact hw y hy
        | _ => cases hd
    obtain ⟨ws, rfl, hw⟩ := this ds h.2
    exact ⟨ws, rfl, by rw [← h.1, List.length_map], hw⟩
  | _ => cases h
theorem wordsB_of {ws : List Str} {n : Nat} (hl : ws.length = n) (h : ∀ x ∈ ws, x = wSame ∨ x = wOn ∨ x = wOff) : wordsB (dStrs ws) n = true := by
  show (decide ((ws.map PyData.str).length = n) && (ws.map PyData.str).all isWd) = true
  rw [List.length_map, decide_eq_true hl, Bool.true_and, List.all_eq_true]
  intro x hx
  obtain ⟨y, hy, rfl⟩ := List.mem_map.mp hx
  exact decide_eq_true (by rcases h y hy with rfl | rfl | rfl <;> simp)
theorem dq_strsV {N : Addr → Prop} {H : Hp} : ∀ {ws : List Str} {vs : List V}, DqAll K N H vs (ws.map PyData.str) → vs = ws.map V.str
  | [], _, .nil => rfl
  | _ :: _, _, .cons h t => by cases h; rw [dq_strsV t]; rfl
def spWords (K : PySem.W.Frag) : Sp := fun vs H Q _ => ∃ (N : Addr → Prop) (v : V) (d : PyData) (n : Nat), vs = [v, .int (n : Nat)] ∧ Dq K N H v d ∧ (∀ ds, d = .tuple ds → ds.length ≤ 100) ∧
  ∀ H', Same H H' → Q (.bl (wordsB d n)) H'
theorem ok_words {f aW : Addr} {fd : FuncData} {k : Nat} (F : Fun K "is_tuple_of_words" "is_tuple_of_words" sWords f fd) (mW : mg "WORDS" = some (.ref aW)) (hW : ∀ H : Hp, SqT K H aW ([wOn, wOff, wSame].map V.str))
    (ml : mg "len" = none) (mal : mg "all" = none) (mis : mg "isinstance" = none) (mt : mg "tuple" = none) : FnOk P w K mg base CX0 (k + 1) f fd ["value", "many"] (spWords K) := by
  refine F.ok scWords (fun vs H Q E h => ?_) (fun cdv A outer s H vs Q E hr h => ?_)
  · obtain ⟨N, v, d, n, rfl, _⟩ := h
    rfl
  · obtain ⟨N, v, d, n, rfl, hd, hl, q⟩ := h
    refine ⟨_, pss_cons (ps_if (PW.pt (pw_or (pt_not (pt_val (pe_callB call_isi (by rfl) mis (by decide +kernel) (pa_cons (pv 0) (pa_cons (pe_bltn (v := .ty "tuple") (by rfl) mt (by decide +kernel) rfl) pa_nil)))))
        (pw_or1 (pt_cmpR op_ne (pe_callB call_len_seq (by rfl) ml PySem.boot_len (pa_cons (pv 0) pa_nil)) (pv 1) (nomark _))))) (pss_one (ps_ret pe_bl)) pss_nil)
      (pss_one (ps_ret (pe_callB (cr_all rfl) (by rfl) mal (by decide +kernel) (pa_cons
        (pe_lc (own := [("word", 2)]) (g := gName 2) (tt := tYes) rfl scWords.nd (pi_tup (pv 0))
          (blkOk_by (own := [("word", 2)]) (N := nWords) (sc := defScope sWords) (by decide +kernel)) (fun _ _ _ _ _ => pg_name (i := 2) scWords.nd rfl (Or.inl rfl)) (fun _ _ _ _ _ => pts_nil)
          (fun _ _ _ _ _ => pe_cmpR (show OpR _ _ (rInW K) from op_inW hr.u1) (pv 2) (pe_glob (v := .ref aW) rfl mW rfl) (by rfl))) pa_nil)))), ?_⟩
    by_cases ht : ∃ ds, d = .tuple ds
    · obtain ⟨ds, rfl⟩ := ht
      cases hd with
      | @tup t xs _ hts ha =>
        have xl := ha.length
        have few := hl ds rfl
        refine ⟨.ref t, rfl, .ref t, .ty "tuple", _, .type "tuple", true, rfl, .ty _, tyT hts, kit_ty (by decide +kernel), true, rfl, iteF ⟨.ref t, rfl, t, _, rfl, .inr hts, _, rfl, rfl, _, rfl, ?_⟩⟩
        by_cases en : ds.length = n
        · have e1 : wordsB (.tuple ds) n = ds.all isWd := by
            show (decide (ds.length = n) && ds.all isWd) = ds.all isWd
            rw [decide_eq_true en, Bool.true_and]
          rw [e1] at q
          rw [xl, en]
          refine iteNS rfl ?_
          refine ⟨.ref t, rfl, t, rfl, ⟨_, hts⟩, fun D nD => ?_⟩
          refine lc_tup (xs := xs) (fun i H3 => Same H H3 ∧ H3 D = some (.lst ((ds.take i).map fun x => V.bl (isWd x)))) ⟨same_new nD, upd_same⟩ (fun i H3 _ hP => same_sqT hP.1 hts) (fun i x H3 hx hP => ?_) (fun H3 hP => ?_)
          · obtain ⟨s3, eD⟩ := hP
            obtain ⟨dx, hdx, hq⟩ := ha.get i x hx
            have hi : i < ds.length := (List.getElem?_eq_some_iff.mp hdx).1
            refine ⟨rfl, tyes (iteT ⟨x, rfl, N, dx, aW, _, rfl, hW H3, Dq.same s3 _ _ hq, _, eD, ?_, ?_, ?_⟩)⟩
            · rw [List.length_map, List.length_take]; exact small1000 (by omega)
            · intro b' o e
              rw [upd_ne (ne_of_none e nD)]
              exact s3 _ _ e
            · rw [upd_same, List.take_add_one, hdx, List.map_append]; rfl
          · obtain ⟨s3, eD⟩ := hP
            have el : (ds.take xs.length).map (fun x => V.bl (isWd x)) = (ds.map isWd).map V.bl := by rw [xl, List.take_length, List.map_map]; rfl
            rw [el] at eD
            refine ⟨D, _, rfl, .inl (.inl eD), ?_⟩
            have : (ds.map isWd).all id = ds.all isWd := by rw [List.all_map]; rfl
            rw [this]
            exact q _ s3
        · have e1 : wordsB (.tuple ds) n = false := by
            show (decide (ds.length = n) && ds.all isWd) = false
            rw [decide_eq_false en, Bool.false_and]
          rw [e1] at q
          have : (xs.length : Int) ≠ (n : Int) := by omega
          exact ite2 (fun _ => q H (Same.refl _)) (fun z => absurd (by rw [decide_eq_false (fun e => this (by injection e))]; rfl) z)
    · have e1 : wordsB d n = false := by
        cases d with
        | tuple ds => exact absurd ⟨ds, rfl⟩ ht
        | _ => rfl
      rw [e1] at q
      have hk : PySem.W.kitOne K (.type (tyD d)) (.type "tuple") = some false := by
        cases d with
        | tuple ds => exact absurd ⟨ds, rfl⟩ ht
        | none => show PySem.W.kitOne K (.type "NoneType") (.type "tuple") = some false; exact kit_ty (by decide +kernel)
        | bool b => show PySem.W.kitOne K (.type "bool") (.type "tuple") = some false; exact kit_ty (by decide +kernel)
        | int b => show PySem.W.kitOne K (.type "int") (.type "tuple") = some false; exact kit_ty (by decide +kernel)
        | str b => show PySem.W.kitOne K (.type "str") (.type "tuple") = some false; exact kit_ty (by decide +kernel)
        | list b => show PySem.W.kitOne K (.type "list") (.type "tuple") = some false; exact kit_ty (by decide +kernel)
        | dict b => show PySem.W.kitOne K (.type "dict") (.type "tuple") = some false; exact kit_ty (by decide +kernel)
      exact ⟨v, rfl, v, .ty "tuple", _, .type "tuple", false, rfl, .ty _, hd.ty, hk, false, rfl, iteT (q H (Same.refl _))⟩

def spUse (K : PySem.W.Frag) : Sp := fun vs H Q _ => ∃ (p a b : Addr) (pan : List (List Int)) (t : List Int) (v : List Str), vs = [.ref p, .ref a, .ref b] ∧ PanT K H p pan ∧ Good pan ∧ SqT K H a ((effM pan t).map V.str) ∧ SqT K H b (v.map V.str) ∧ v.length = pan.length ∧
  (∀ (H' : Hp) (x : Nat), Same H H' → x < pan.length → effM pan ((x : Int) :: t) ≠ effM pan t → partB (effM pan ((x : Int) :: t)) v = true → (∀ y : Nat, y < x → ¬ UseF pan v t y) → Q (.int (x : Int)) H') ∧
  ∀ H', Same H H' → (∀ x : Nat, x < pan.length → effM pan ((x : Int) :: t) ≠ effM pan t → partB (effM pan ((x : Int) :: t)) v ≠ true) → Q .non H'
theorem ok_use {f fN fP fJ fB fA : Addr} {fd fdN fdP fdJ fdB fdA : FuncData} {k : Nat} (F : Fun K "useful_press" "useful_press" sUse f fd) (FN : Fun K "no_effect" "no_effect" sNo fN fdN) (bN : Binds K fdN ["panel"] []) (gN : mg "no_effect" = some (.ref fN))
    (FP : Fun K "press_effect" "press_effect" sPressE fP fdP) (bP : Binds K fdP ["panel", "button"] []) (gP : mg "press_effect" = some (.ref fP))
    (FJ : Fun K "joined_effect" "joined_effect" sJoin fJ fdJ) (bJ : Binds K fdJ ["first", "second"] []) (gJ : mg "joined_effect" = some (.ref fJ))
    (FB : Fun K "effect_behind_press" "effect_behind_press" sBehind fB fdB) (bB : Binds K fdB ["panel", "effect", "button"] []) (gB : mg "effect_behind_press" = some (.ref fB))
    (FA : Fun K "is_part" "is_part" sPart fA fdA) (bA : Binds K fdA ["effect", "wanted"] []) (gA : mg "is_part" = some (.ref fA))
    (ml : mg "len" = none) (mli : mg "list" = none) (mt : mg "tuple" = none) (mz : mg "zip" = none) (mr : mg "range" = none) (mal : mg "all" = none) : FnOk P w K mg base CX0 (k + 4) f fd ["panel", "effect", "wanted"] (spUse K) := by
  have GB : FnOk P w K mg base CX0 (k + 3) fB fdB ["panel", "effect", "button"] (spBehind K) := ok_behind FB FN bN gN FP bP gP FJ bJ gJ ml mli mt mz
  have GA : FnOk P w K mg base CX0 (k + 3) fA fdA ["effect", "wanted"] (spPart K) := ok_part FA mz mal
  refine F.ok scUse (fun vs H Q E h => ?_) (fun cdv A outer s H vs Q E hr h => ?_)
  · obtain ⟨p, a, b, pan, t, v, rfl, _⟩ := h
    rfl
  · obtain ⟨p, a, b, pan, t, v, rfl, hp, hg, ha, hb, hvl, q1, q2⟩ := h
    refine ⟨_, pss_cons (ps_for PassesOwn.never rfl (pi_range1 (by rfl) mr (pa_cons (pe_callB call_len_seq (by rfl) ml PySem.boot_len (pa_cons (pv 0) pa_nil)) pa_nil)) (pg_name (i := 3) scUse.nd rfl (.inl rfl))
        (pss_cons (ps_set (i := 4) scUse.nd rfl (.inl rfl) (pe_call GB hr (by rfl) gB FB.kp bB .nil pass0 (pa_cons (pv 0) (pa_cons (pv 1) (pa_cons (pv 3) pa_nil)))))
        (pss_one (ps_if (PW.pt (pw_and (pt_cmpR (op_neD hr.units) (pv 4) (pv 1) (nomark _)) (pw_and1 (pt_val (pe_call GA hr (by rfl) gA FA.kp bA .nil pass0 (pa_cons (pv 4) (pa_cons (pv 2) pa_nil)))))))
          (pss_one (ps_ret (pv 3))) pss_nil))))
      (pss_one (ps_ret pe_non)), ?_⟩
    have few := hg.few
    obtain ⟨ps, hps, hpl⟩ := hp.len
    refine ⟨.ref p, rfl, p, _, rfl, .inr hps, _, rfl, by rw [hpl]; omega, by rw [hpl]; omega, ?_⟩
    rw [hpl]
    refine for_range (n := pan.length) (fun i σ H2 => Same H H2 ∧ (∀ x : Nat, x < i → effM pan ((x : Int) :: t) ≠ effM pan t → partB (effM pan ((x : Int) :: t)) v ≠ true) ∧ ∃ x3 x4, σ = [some (.ref p), some (.ref a), some (.ref b), x3, x4])
      ⟨Same.refl _, fun x hx => absurd hx (Nat.not_lt_zero _), none, none, rfl⟩ (fun i σ H2 hi hP => ?_) (fun σ H2 hP => ?_)
    · obtain ⟨s2, no, x3, x4, rfl⟩ := hP
      rw [Int.zero_add]
      refine ⟨.ref p, rfl, .ref a, rfl, .int (i : Int), rfl, p, a, pan, _, (i : Int), rfl, hp.same s2, hg, same_sqT s2 ha, effM_len _ _, by omega, by omega, fun H3 u s3 eu => ?_⟩
      rw [← eff_cons hg (by omega) (by omega)] at eu
      have s23 := s2.trans s3
      have step : ∀ H4, Same H3 H4 → ¬ (effM pan ((i : Int) :: t) ≠ effM pan t ∧ partB (effM pan ((i : Int) :: t)) v = true) → Same H H4 ∧ (∀ x : Nat, x < i + 1 → effM pan ((x : Int) :: t) ≠ effM pan t → partB (effM pan ((x : Int) :: t)) v ≠ true) := by
        intro H4 s4 hn
        refine ⟨s23.trans s4, fun x hx h1 h2 => ?_⟩
        rcases Nat.lt_or_ge x i with h | h
        · exact no x h h1 h2
        · obtain rfl : x = i := by omega
          exact hn ⟨h1, h2⟩
      refine ⟨.ref u, rfl, .ref a, rfl, dStrs (effM pan ((i : Int) :: t)), dStrs (effM pan t), dp_strs (.inl (.inl eu)), dp_strs (same_sqT s23 ha), shp_words fun _ h => eff3 h, shp_words fun _ h => eff3 h, _, rfl, ?_⟩
      rw [eqv_strs]
      refine ite2 (fun e => ?_) (fun e => ?_)
      · have e' : effM pan ((i : Int) :: t) ≠ effM pan t := fun z => by rw [decide_eq_true z] at e; exact absurd e (by decide)
        refine ⟨.ref u, rfl, .ref b, rfl, u, b, _, v, rfl, .inl (.inl eu), same_sqT s23 hb, by rw [effM_len, hvl], by omega, fun H4 s4 => ⟨_, rfl, ite2 (fun e2 => ?_) (fun e2 => ?_)⟩⟩
        · exact ⟨.int (i : Int), rfl, q1 H4 i (s23.trans s4) hi e' e2 fun y hy u => no y hy u.1 u.2⟩
        · obtain ⟨g1, g2⟩ := step H4 s4 fun z => e2 z.2
          exact ⟨g1, g2, _, _, rfl⟩
      · have e' : ¬ (effM pan ((i : Int) :: t) ≠ effM pan t) := fun z => e (by rw [decide_eq_false z]; rfl)
        obtain ⟨g1, g2⟩ := step H3 (Same.refl _) fun z => e' z.1
        exact iteF ⟨g1, g2, _, _, rfl⟩
    · obtain ⟨s2, no, x3, x4, rfl⟩ := hP
      exact q2 H2 s2 no

def spFor (K : PySem.W.Frag) : Sp := fun vs H Q _ => ∃ (N : Addr → Prop) (p : Addr) (x : V) (pan : List (List Int)) (d : PyData), vs = [.ref p, x] ∧ PanT K H p pan ∧ Good pan ∧ Dq K N H x d ∧ (∀ ds, d = .tuple ds → ds.length ≤ 100) ∧
  (∀ (H' : Hp) (r : Addr) (t : List Int), Same H H' → H' r = some (.tup (t.map V.int)) → dStrs (effM pan t) = d → Gr pan (effM pan t) t → t.Nodup → (∀ x ∈ t, 0 ≤ x ∧ x < (pan.length : Int)) → Q (.ref r) H') ∧
  ∀ H', Same H H' → (∀ row : List Int, (∀ x ∈ row, 0 ≤ x ∧ x < (pan.length : Int)) → dStrs (effM pan row) ≠ d) → Q .non H'
theorem dStrs_inj {a b : List Str} (h : dStrs a = dStrs b) : a = b := by
  have h : a.map PyData.str = b.map PyData.str := by injection h
  exact (List.map_inj_right (fun x y e => by injection e)).mp h
theorem ok_for {f fN fP fJ fB fA fW fU aW : Addr} {fd fdN fdP fdJ fdB fdA fdW fdU : FuncData} {k : Nat} (F : Fun K "row_for" "row_for" sFor f fd) (FN : Fun K "no_effect" "no_effect" sNo fN fdN) (bN : Binds K fdN ["panel"] []) (gN : mg "no_effect" = some (.ref fN))
    (FP : Fun K "press_effect" "press_effect" sPressE fP fdP) (bP : Binds K fdP ["panel", "button"] []) (gP : mg "press_effect" = some (.ref fP))
    (FJ : Fun K "joined_effect" "joined_effect" sJoin fJ fdJ) (bJ : Binds K fdJ ["first", "second"] []) (gJ : mg "joined_effect" = some (.ref fJ))
    (FB : Fun K "effect_behind_press" "effect_behind_press" sBehind fB fdB) (bB : Binds K fdB ["panel", "effect", "button"] []) (gB : mg "effect_behind_press" = some (.ref fB))
    (FA : Fun K "is_part" "is_part" sPart fA fdA) (bA : Binds K fdA ["effect", "wanted"] []) (gA : mg "is_part" = some (.ref fA))
    (FW : Fun K "is_tuple_of_words" "is_tuple_of_words" sWords fW fdW) (bW : Binds K fdW ["value", "many"] []) (gW : mg "is_tuple_of_words" = some (.ref fW))
    (FU : Fun K "useful_press" "useful_press" sUse fU fdU) (bU : Binds K fdU ["panel", "effect", "wanted"] []) (gU : mg "useful_press" = some (.ref fU))
    (mW : mg "WORDS" = some (.ref aW)) (hW : ∀ H : Hp, SqT K H aW ([wOn, wOff, wSame].map V.str))
    (ml : mg "len" = none) (mli : mg "list" = none) (mt : mg "tuple" = none) (mz : mg "zip" = none) (mr : mg "range" = none) (mal : mg "all" = none) (mis : mg "isinstance" = none) : FnOk P w K mg base CX0 (k + 5) f fd ["panel", "value"] (spFor K) := by
  have GN : FnOk P w K mg base CX0 (k + 4) fN fdN ["panel"] (spNo K) := ok_no FN ml
  have GB : FnOk P w K mg base CX0 (k + 4) fB fdB ["panel", "effect", "button"] (spBehind K) := ok_behind FB FN bN gN FP bP gP FJ bJ gJ ml mli mt mz
  have GW : FnOk P w K mg base CX0 (k + 4) fW fdW ["value", "many"] (spWords K) := ok_words FW mW hW ml mal mis mt
  have GU : FnOk P w K mg base CX0 (k + 4) fU fdU ["panel", "effect", "wanted"] (spUse K) := ok_use FU FN bN gN FP bP gP FJ bJ gJ FB bB gB FA bA gA ml mli mt mz mr mal
  refine F.ok scFor (fun vs H Q E h => ?_) (fun cdv A outer s H vs Q E hr h => ?_)
  · obtain ⟨N, p, x, pan, d, rfl, _⟩ := h
    rfl
  · obtain ⟨N, p, x, pan, d, rfl, hp, hg, hd, hdl, q1, q2⟩ := h
    refine ⟨_, pss_cons (ps_if (pt_not (pt_val (pe_call GW hr (by rfl) gW FW.kp bW .nil pass0 (pa_cons (pv 1) (pa_cons (pe_callB call_len_seq (by rfl) ml PySem.boot_len (pa_cons (pv 0) pa_nil)) pa_nil))))) (pss_one (ps_ret pe_non)) pss_nil)
      (pss_cons (ps_set (i := 2) scFor.nd rfl (.inl rfl) (pe_tup pa_nil))
      (pss_cons (ps_set (i := 3) scFor.nd rfl (.inl rfl) (pe_call GN hr (by rfl) gN FN.kp bN .nil pass0 (pa_cons (pv 0) pa_nil)))
      (pss_cons (ps_while PassesOwn.never (pt_cmpR (op_neD hr.units) (pv 3) (pv 1) (nomark _))
        (pss_cons (ps_set (i := 4) scFor.nd rfl (.inl rfl) (pe_call GU hr (by rfl) gU FU.kp bU .nil pass0 (pa_cons (pv 0) (pa_cons (pv 3) (pa_cons (pv 1) pa_nil)))))
        (pss_cons (ps_if (pt_cmpR op_isN (pv 4) pe_non (nomark _)) (pss_one (ps_ret pe_non)) pss_nil)
        (pss_cons (ps_set (i := 2) scFor.nd rfl (.inl rfl) (pe_tup (pa_cons (pv 4) (StX.pa_star (pv 2) pa_nil))))
        (pss_one (ps_set (i := 3) scFor.nd rfl (.inl rfl) (pe_call GB hr (by rfl) gB FB.kp bB .nil pass0 (pa_cons (pv 0) (pa_cons (pv 3) (pa_cons (pv 4) pa_nil))))))))))
      (pss_one (ps_ret (pv 2)))))), ?_⟩
    have few := hg.few
    obtain ⟨ps, hps, hpl⟩ := hp.len
    refine ⟨x, rfl, .ref p, rfl, p, _, rfl, .inr hps, N, x, d, pan.length, by rw [hpl]; rfl, hd, hdl, fun H1 s1 => ⟨_, rfl, ite2 (fun e => ?_) (fun e => ?_)⟩⟩
    · refine q2 H1 s1 fun row hr z => ?_
      rw [← z, wordsB_of (effM_len pan row) fun _ h => eff3 h] at e
      cases e
    have hw : wordsB d pan.length = true := by
      cases z : wordsB d pan.length with
      | true => rfl
      | false => rw [z] at e; exact absurd rfl e
    obtain ⟨v, rfl, hvl, hv3⟩ := wordsB_some hw
    obtain ⟨a, xs, rfl, hav, hxs⟩ : ∃ a xs, x = .ref a ∧ SqT K H a xs ∧ DqAll K N H xs (v.map PyData.str) := by
      cases hd with
      | tup q r => exact ⟨_, _, rfl, q, r⟩
    rw [dq_strsV hxs] at hav
    refine ⟨Nat.zero_le _, fun T0 n0 => ?_⟩
    have s2 : Same H (upd H1 T0 (.tup [])) := s1.trans (same_new n0)
    refine ⟨.ref p, rfl, p, pan, rfl, hp.same s2, hg, fun H3 u s3 eu => ?_⟩
    have e03 := s3 _ _ (upd_same (a := T0) (H := H1) (o := .tup []))
    refine ⟨fun mm σ H4 => ∃ (t : List Int) (r u : Addr) (x4 : Option V), mm = (effM pan t).count wSame ∧ Same H H4 ∧ H4 r = some (.tup (t.map V.int)) ∧ H4 u = some (.tup ((effM pan t).map V.str)) ∧ partB (effM pan t) v = true ∧ Gr pan v t ∧ t.Nodup ∧ (∀ x ∈ t, 0 ≤ x ∧ x < (pan.length : Int)) ∧ σ = [some (.ref p), some (.ref a), some (.ref r), some (.ref u), x4],
      ⟨_, [], T0, u, none, rfl, s2.trans s3, e03, eu, part_nil hvl, .nil, List.nodup_nil, (fun x h => by cases h), rfl⟩, ?_⟩
    rintro mm σ H4 ⟨t, r, u, x4, rfl, s4, er, eu, hpart, hgr, hnd, htr, rfl⟩
    have tl : t.length ≤ 10 := Nat.le_trans (nodup_few pan.length t hnd htr) few
    refine ⟨.ref u, rfl, .ref a, rfl, dStrs (effM pan t), dStrs v, dp_strs (.inl (.inl eu)), dp_strs (same_sqT s4 hav), shp_words fun _ h => eff3 h, shp_words hv3, _, rfl, ?_⟩
    rw [eqv_strs]
    refine ite2 (fun e => ?_) (fun e => ?_)
    · have e' : effM pan t ≠ v := fun z => by rw [decide_eq_true z] at e; exact absurd e (by decide)
      refine ⟨_, fun σ' H' h => h, .ref p, rfl, .ref u, rfl, .ref a, rfl, p, u, a, pan, t, v, rfl, hp.same s4, hg, .inl (.inl eu), same_sqT s4 hav, hvl, fun H5 b s5 hb h1 h2 hf => ?_, fun H5 s5 hno => ?_⟩
      · refine ⟨.int (b : Int), rfl, rfl, _, rfl, iteF ?_⟩
        have er5 := s5 _ _ er
        refine ⟨.int (b : Int), rfl, .ref r, rfl, r, _, rfl, .inl (.inl (.inl er5)), ?_, fun R nR => ?_⟩
        · rw [List.append_nil, List.length_cons, List.length_map]; exact Nat.le_of_lt (small1000 (by omega))
        · rw [List.append_nil]
          have sR : Same H5 (upd H5 R (.tup (.int (b : Int) :: t.map V.int))) := same_new nR
          have s45 := s5.trans sR
          refine ⟨.ref p, rfl, .ref u, rfl, .int (b : Int), rfl, p, u, pan, _, (b : Int), rfl, hp.same (s4.trans s45), hg, .inl (.inl (s45 _ _ eu)), effM_len _ _, by omega, by omega, fun H6 u6 s6 e6 => ?_⟩
          rw [← eff_cons hg (by omega) (by omega)] at e6
          refine ⟨_, count_less h1, (b : Int) :: t, R, u6, _, rfl, (s4.trans s45).trans s6, s6 _ _ upd_same, e6, h2, .cons hgr e' ⟨h1, h2⟩ hf, List.nodup_cons.mpr ⟨fun hm => h1 (eff_again hm), hnd⟩, fun x hx => ?_, rfl⟩
          rcases List.mem_cons.mp hx with q | q
          · rw [q]; omega
          · exact htr x q
      · refine ⟨.non, rfl, rfl, _, rfl, iteT (q2 H5 (s4.trans s5) fun row hrow hr0 => ?_)⟩
        have hr : effM pan row = v := dStrs_inj hr0
        subst hr
        obtain ⟨b, hb, h1, h2⟩ := useful row hpart e' hrow
        have hbr := hrow b hb
        have := hno b.toNat (by omega)
        rw [Int.toNat_of_nonneg hbr.1] at this
        exact this h1 h2
    · have e' : effM pan t = v := Classical.byContradiction fun z => e (by rw [decide_eq_false z]; rfl)
      exact ⟨.ref r, rfl, q1 H4 r t s4 er (by rw [e']) (by rw [e']; exact hgr) hnd htr⟩
end
end K14
/-! The search for the shortest row, from the last press back: what its turns keep. -/
namespace Pr
open PySem PySem.Spec PyProof.Rows L2
theorem _root_.L2.Room.u65 {k : Nat} {A : PySem.Around} (r : Room k A) : A.units + 65 < PySem.cLine := by have := r.un; omega
def kStr (l : List Str) : List Key := l.map Sum.inr
theorem kStr_kV (l : List Str) : (kStr l).map kV = l.map V.str := by unfold kStr; rw [List.map_map]; rfl
theorem kStr_inj {a b : List Str} (h : kStr a = kStr b) : a = b := by
  unfold kStr at h
  exact List.map_inj_right (fun x y e => Sum.inr.inj e) |>.mp h
def InRow (pan : List (List Int)) (row : List Int) : Prop := ∀ y ∈ row, 0 ≤ y ∧ y < (pan.length : Int)
abbrev keysB (L : BL (List Key)) : List (List Key) := L.map (·.1)
/-- an entry: the effect of its row -/
structure Ent (pan : List (List Int)) (n : Nat) (x : List Key × List Int) : Prop where
  key : x.1 = kStr (effM pan x.2)
  inr : InRow pan x.2
  len : x.2.length ≤ n
structure SInv (pan : List (List Int)) (W : List Str) (i : Nat) (L : BL (List Key)) (ts : List (List Int)) : Prop where
  nd : (keysB L).Nodup
  ent : ∀ x ∈ L, Ent pan i x
  lev : ∀ t ∈ ts, InRow pan t ∧ kStr (effM pan t) ∈ keysB L
  clo : ∀ x ∈ L, (∃ t ∈ ts, effM pan t = effM pan x.2) ∨ ∀ b : Nat, b < pan.length → partB (effM pan ((b : Int) :: x.2)) W = true → kStr (effM pan ((b : Int) :: x.2)) ∈ keysB L
  com : ∀ r, InRow pan r → r.length ≤ i → partB (effM pan r) W = true → kStr (effM pan r) ∈ keysB L
/-- amid a turn: the buttons below b are done, of button b the first j -/
structure SMid (pan : List (List Int)) (W : List Str) (i : Nat) (L : BL (List Key)) (ts : List (List Int)) (b j : Nat) (L' : BL (List Key)) (us : List (List Int)) : Prop where
  nd : (keysB L').Nodup
  ent : ∀ x ∈ L', Ent pan (i + 1) x
  sub : ∀ x ∈ L, x ∈ L'
  new : ∀ x ∈ L', x ∈ L ∨ ∃ u ∈ us, effM pan u = effM pan x.2
  lev : ∀ u ∈ us, InRow pan u ∧ kStr (effM pan u) ∈ keysB L'
  few : us.length ≤ L'.length
  don : ∀ (b' k : Nat) (t : List Int), ts[k]? = some t → (b' < b ∨ (b' = b ∧ k < j)) → partB (effM pan ((b' : Int) :: t)) W = true → kStr (effM pan ((b' : Int) :: t)) ∈ keysB L'
variable {pan : List (List Int)} {W : List Str} {i : Nat} {L L' : BL (List Key)} {ts us : List (List Int)}
theorem SInv.start (g : Good pan) : SInv pan W 0 [(kStr (effM pan []), [])] [[]] := by
  refine ⟨by simp, fun x hx => ?_, fun t ht => ?_, fun x hx => ?_, fun r hr hl _ => ?_⟩
  · rw [List.mem_singleton.mp hx]; exact ⟨rfl, (fun _ h => by cases h), Nat.le_refl _⟩
  · rw [List.mem_singleton.mp ht]; exact ⟨(fun _ h => by cases h), by simp⟩
  · rw [List.mem_singleton.mp hx]; exact .inl ⟨[], List.mem_cons_self, rfl⟩
  · have : r = [] := List.length_eq_zero_iff.mp (by omega)
    subst this; simp
theorem SInv.mid (h : SInv pan W i L ts) : SMid pan W i L ts 0 0 L [] :=
  ⟨h.nd, fun x hx => let e := h.ent x hx; ⟨e.key, e.inr, by have := e.len; omega⟩, fun _ h => h, fun _ h => .inl h, (fun _ h => by cases h), Nat.zero_le _, fun b' k t _ hb => by rcases hb with h | ⟨_, h⟩ <;> omega⟩
theorem SMid.next (h : SMid pan W i L ts b ts.length L' us) : SMid pan W i L ts (b + 1) 0 L' us :=
  ⟨h.nd, h.ent, h.sub, h.new, h.lev, h.few, fun b' k t hk hb => h.don b' k t hk (by
    have := (List.getElem?_eq_some_iff.mp hk).1
    rcases hb with hb | ⟨_, hb⟩
    · rcases Nat.lt_or_ge b' b with h | h
      · exact .inl h
      · exact .inr ⟨by omega, this⟩
    · omega)⟩
theorem key_mem {x : List Key × List Int} {L : BL (List Key)} (h : x ∈ L) : x.1 ∈ keysB L := List.mem_map.mpr ⟨x, h, rfl⟩
theorem eff_cong (g : Good pan) {b : Nat} (hb : b < pan.length) {r t : List Int} (e : effM pan r = effM pan t) : effM pan ((b : Int) :: r) = effM pan ((b : Int) :: t) := by
  rw [eff_cons g (by omega) (by omega), eff_cons g (by omega) (by omega), e]
/-- one turn of the inner loop: nothing is added -/
theorem SMid.skip {b j : Nat} {t : List Int} (h : SMid pan W i L ts b j L' us) (ht : ts[j]? = some t) (no : partB (effM pan ((b : Int) :: t)) W = true → kStr (effM pan ((b : Int) :: t)) ∈ keysB L') : SMid pan W i L ts b (j + 1) L' us :=
  ⟨h.nd, h.ent, h.sub, h.new, h.lev, h.few, fun b' k u hk hb hp => by
    by_cases e : b' = b ∧ k = j
    · obtain ⟨rfl, rfl⟩ := e
      rw [ht] at hk; cases hk
      exact no hp
    · exact h.don b' k u hk (by rcases hb with h | ⟨h1, h2⟩; exact .inl h; exact .inr ⟨h1, by omega⟩) hp⟩
/-- the row of a thing that is there -/
theorem ent_of (h : ∀ x ∈ L', Ent pan n x) {t : List Int} (hk : kStr (effM pan t) ∈ keysB L') : ∃ (m : Nat) (x : List Key × List Int), L'[m]? = some x ∧ x.1 = kStr (effM pan t) ∧ effM pan x.2 = effM pan t ∧ InRow pan x.2 := by
  obtain ⟨x, hx, e⟩ := List.mem_map.mp hk
  obtain ⟨m, hm⟩ := List.mem_iff_getElem?.mp hx
  have := h x hx
  exact ⟨m, x, hm, e, kStr_inj (this.key.symm.trans e), this.inr⟩
theorem SMid.add {b j : Nat} {t : List Int} (g : Good pan) (hb : b < pan.length) (h : SMid pan W i L ts b j L' us) (ht : ts[j]? = some t) {x : List Key × List Int} (hx : x ∈ L) (hxe : effM pan x.2 = effM pan t) (hxi : Ent pan i x) (hn : kStr (effM pan ((b : Int) :: t)) ∉ keysB L') : SMid pan W i L ts b (j + 1) (L' ++ [(kStr (effM pan ((b : Int) :: t)), (b : Int) :: x.2)]) (us ++ [(b : Int) :: x.2]) := by
  have ec := eff_cong g hb hxe
  have inr : InRow pan ((b : Int) :: x.2) := fun y hy => by
    rcases List.mem_cons.mp hy with rfl | hy
    · exact ⟨by omega, by omega⟩
    · exact hxi.inr y hy
  refine ⟨?_, fun y hy => ?_, fun y hy => List.mem_append_left _ (h.sub y hy), fun y hy => ?_, fun u hu => ?_, by rw [List.length_append, List.length_append]; have := h.few; show us.length + 1 ≤ L'.length + 1; omega, fun b' k u hk hbk hp => ?_⟩
  · unfold keysB; rw [List.map_append, List.nodup_append]
    refine ⟨h.nd, by simp, fun y hy z hz e => ?_⟩
    rw [List.mem_singleton.mp hz] at e
    exact hn (by rw [e] at hy; exact hy)
  · rcases List.mem_append.mp hy with hy | hy
    · exact h.ent y hy
    · rw [List.mem_singleton.mp hy]
      exact ⟨by rw [ec], inr, by rw [List.length_cons]; have := hxi.len; omega⟩
  · rcases List.mem_append.mp hy with hy | hy
    · rcases h.new y hy with h | ⟨u, hu, e⟩
      · exact .inl h
      · exact .inr ⟨u, List.mem_append_left _ hu, e⟩
    · rw [List.mem_singleton.mp hy]
      exact .inr ⟨_, List.mem_append_right _ List.mem_cons_self, rfl⟩
  · unfold keysB; rw [List.map_append]
    rcases List.mem_append.mp hu with hu | hu
    · exact ⟨(h.lev u hu).1, List.mem_append_left _ (h.lev u hu).2⟩
    · rw [List.mem_singleton.mp hu]
      exact ⟨inr, List.mem_append_right _ (by rw [ec]; exact List.mem_cons_self)⟩
  · unfold keysB; rw [List.map_append]
    by_cases e : b' = b ∧ k = j
    · obtain ⟨rfl, rfl⟩ := e
      rw [ht] at hk; cases hk
      exact List.mem_append_right _ List.mem_cons_self
    · exact List.mem_append_left _ (h.don b' k u hk (by rcases hbk with h | ⟨h1, h2⟩; exact .inl h; exact .inr ⟨h1, by omega⟩) hp)
theorem part_tail (hW : W.length = pan.length) {b : Int} {r : List Int} (h : partB (effM pan (b :: r)) W = true) : partB (effM pan r) W = true := by
  rw [part_eff hW] at h ⊢
  intro c y hy
  have := h c y hy
  have e : wordsM pan (b :: r) (c : Int) = if wordsM pan r (c : Int) = wSame then wordsM pan [b] (c : Int) else wordsM pan r (c : Int) := words_app pan [b] r c
  by_cases hs : wordsM pan r (c : Int) = wSame
  · exact .inl hs
  · rw [e, if_neg hs] at this; exact this
theorem SMid.done (g : Good pan) (hW : W.length = pan.length) (h0 : SInv pan W i L ts) (h : SMid pan W i L ts pan.length 0 L' us) : SInv pan W (i + 1) L' us := by
  have sub : ∀ k, k ∈ keysB L → k ∈ keysB L' := fun k hk => by
    obtain ⟨x, hx, rfl⟩ := List.mem_map.mp hk
    exact key_mem (h.sub x hx)
  have ext : ∀ x ∈ L, ∀ b : Nat, b < pan.length → partB (effM pan ((b : Int) :: x.2)) W = true → kStr (effM pan ((b : Int) :: x.2)) ∈ keysB L' := fun x hx b hb hp => by
    rcases h0.clo x hx with ⟨t, ht, e⟩ | hc
    · obtain ⟨k, hk⟩ := List.mem_iff_getElem?.mp ht
      have ec := eff_cong g hb e
      rw [← ec] at hp ⊢
      exact h.don b k t hk (.inl hb) hp
    · exact sub _ (hc b hb hp)
  refine ⟨h.nd, h.ent, h.lev, fun x hx => ?_, fun r hr hl hp => ?_⟩
  · rcases h.new x hx with hx | ⟨u, hu, e⟩
    · exact .inr (ext x hx)
    · exact .inl ⟨u, hu, e⟩
  · cases r with
    | nil => exact sub _ (h0.com [] hr (Nat.zero_le _) hp)
    | cons y r =>
      have hy := hr y List.mem_cons_self
      have hr' : InRow pan r := fun z hz => hr z (List.mem_cons_of_mem _ hz)
      have hk := h0.com r hr' (by rw [List.length_cons] at hl; omega) (part_tail hW hp)
      obtain ⟨m, x, hm, _, e, _⟩ := ent_of h0.ent hk
      obtain ⟨b, rfl⟩ : ∃ b : Nat, y = (b : Int) := ⟨y.toNat, (Int.toNat_of_nonneg hy.1).symm⟩
      have hb : b < pan.length := by omega
      have ec := eff_cong g hb e
      rw [← ec] at hp ⊢
      exact ext x (List.mem_of_getElem? hm) b hb hp
theorem part_self (hW : row.length = row.length) : partB (effM pan row) (effM pan row) = true := (part_iff rfl).mpr fun c x y h1 h2 => .inr (by rw [h1] at h2; exact Option.some.inj h2)
def digW (k : List Key) (i : Nat) : Nat := match k[i]? with
  | some (.inr x) => if x = wSame then 0 else if x = wOn then 1 else 2
  | _ => 0
theorem few_eff {L : BL (List Key)} (nd : (keysB L).Nodup) (h : ∀ x ∈ L, x.1 = kStr (effM pan x.2)) (few : pan.length ≤ 10) : L.length ≤ 60000 := by
  have := few_of (b := 3) (n := pan.length) (P := fun k => ∃ r, k = kStr (effM pan r)) (dig := digW) (ks := keysB L) (fun k i _ _ => by
    unfold digW
    repeat' split
    all_goals omega) (fun k k' hk hk' hh => ?_) nd (fun k hk => by
      obtain ⟨x, hx, rfl⟩ := List.mem_map.mp hk
      exact ⟨x.2, h x hx⟩)
  · unfold keysB at this
    rw [List.length_map] at this
    refine Nat.le_trans this ?_
    exact Nat.le_trans (Nat.pow_le_pow_right (by decide) few) (by decide)
  · obtain ⟨r, rfl⟩ := hk
    obtain ⟨r', rfl⟩ := hk'
    congr 1
    refine eff_ext fun c hc => ?_
    have := hh c hc
    unfold digW kStr at this
    rw [List.getElem?_map, List.getElem?_map, eff_get hc, eff_get hc] at this
    simp only [Option.map_some] at this
    rcases word3 pan (c : Int) r with a | a | a <;> rcases word3 pan (c : Int) r' with a' | a' | a' <;> rw [a, a'] at this ⊢
    all_goals (exfalso; revert this; decide +kernel)
end Pr
/-! The row that shortest_row finds is the first one of the shortest. -/
namespace Pr
open PySem PySem.Spec PyProof.Rows L2
/-- no row of the same effect is shorter, none of the same length stands ahead -/
structure Best (pan : List (List Int)) (r : List Int) : Prop where
  inr : InRow pan r
  min : ∀ r', InRow pan r' → effM pan r' = effM pan r → r.length ≤ r'.length ∧ (r'.length = r.length → HT.lexLt r' r = false)
theorem lexLt_irr (r : List Int) : HT.lexLt r r = false := by rw [lexLt_lt, decide_eq_false_iff_not]; exact List.lt_irrefl r
theorem lexLt_cc (c : Int) (r s : List Int) : HT.lexLt (c :: r) (c :: s) = HT.lexLt r s := by rw [HT.lexLt_cons, if_pos rfl]
theorem lexLt_hd {c e : Int} (h : c < e) (r s : List Int) : HT.lexLt (c :: r) (e :: s) = true := by
  rw [HT.lexLt_cons, if_neg (by omega)]
  exact decide_eq_true h
theorem lexLt_asym {a b : List Int} (h : HT.lexLt a b = true) : HT.lexLt b a = false := by
  rcases lex_total a b with h1 | h1
  · rw [h1] at h; cases h
  · exact h1
theorem Best.uniq {pan : List (List Int)} {r s : List Int} (a : Best pan r) (b : Best pan s) (e : effM pan r = effM pan s) : r = s := by
  have h1 := a.min s b.inr e.symm
  have h2 := b.min r a.inr e
  have hl : r.length = s.length := by omega
  exact lex_anti (h1.2 hl.symm) (h2.2 hl)
abbrev entK (pan : List (List Int)) (u : List Int) : List Key × List Int := (kStr (effM pan u), u)
structure XInv (pan : List (List Int)) (i : Nat) (L : BL (List Key)) (ts : List (List Int)) : Prop where
  bes : ∀ x ∈ L, Best pan x.2
  lvl : ∀ t ∈ ts, t.length = i ∧ entK pan t ∈ L
  all : ∀ x ∈ L, x.2.length = i → x.2 ∈ ts
  srt : ts.Pairwise fun a b => HT.lexLt a b = true
structure XMid (pan : List (List Int)) (i : Nat) (L : BL (List Key)) (ts : List (List Int)) (b j : Nat) (L' : BL (List Key)) (us : List (List Int)) : Prop where
  eq : L' = L ++ us.map (entK pan)
  bes : ∀ u ∈ us, Best pan u
  frm : ∀ u ∈ us, ∃ (b' k : Nat) (t : List Int), ts[k]? = some t ∧ u = (b' : Int) :: t ∧ (b' < b ∨ (b' = b ∧ k < j))
  srt : us.Pairwise fun a b => HT.lexLt a b = true
variable {pan : List (List Int)} {W : List Str} {i : Nat} {L L' : BL (List Key)} {ts us : List (List Int)}
theorem XInv.start : XInv pan 0 [(kStr (effM pan []), [])] [[]] := by
  refine ⟨fun x hx => ?_, fun t ht => ?_, fun x hx _ => ?_, List.pairwise_singleton _ _⟩
  · rw [List.mem_singleton.mp hx]
    exact ⟨(fun _ h => by cases h), fun r' _ _ => ⟨Nat.zero_le _, fun hl => by rw [List.eq_nil_of_length_eq_zero hl]; exact lexLt_irr []⟩⟩
  · rw [List.mem_singleton.mp ht]; exact ⟨rfl, List.mem_singleton.mpr rfl⟩
  · rw [List.mem_singleton.mp hx]; exact List.mem_singleton.mpr rfl
theorem XInv.mid : XMid pan i L ts 0 0 L [] := ⟨by simp, (fun _ h => by cases h), (fun _ h => by cases h), .nil⟩
theorem XMid.next {b : Nat} (h : XMid pan i L ts b ts.length L' us) : XMid pan i L ts (b + 1) 0 L' us :=
  ⟨h.eq, h.bes, fun u hu => by
    obtain ⟨b', k, t, h1, h2, h3⟩ := h.frm u hu
    refine ⟨b', k, t, h1, h2, .inl ?_⟩
    rcases h3 with h3 | ⟨h3, _⟩ <;> omega, h.srt⟩
theorem XMid.skip {b j : Nat} (h : XMid pan i L ts b j L' us) : XMid pan i L ts b (j + 1) L' us :=
  ⟨h.eq, h.bes, fun u hu => by
    obtain ⟨b', k, t, h1, h2, h3⟩ := h.frm u hu
    refine ⟨b', k, t, h1, h2, ?_⟩
    rcases h3 with h3 | ⟨h3, h4⟩
    · exact .inl h3
    · exact .inr ⟨h3, by omega⟩, h.srt⟩
theorem XMid.done {b : Nat} (s0 : SInv pan W i L ts) (h0 : XInv pan i L ts) (h : XMid pan i L ts b 0 L' us) : XInv pan (i + 1) L' us := by
  have ul : ∀ u ∈ us, u.length = i + 1 := fun u hu => by
    obtain ⟨b', k, t, h1, rfl, _⟩ := h.frm u hu
    rw [List.length_cons, (h0.lvl t (List.mem_of_getElem? h1)).1]
  refine ⟨fun x hx => ?_, fun u hu => ⟨ul u hu, ?_⟩, fun x hx hl => ?_, h.srt⟩
  · rw [h.eq] at hx
    rcases List.mem_append.mp hx with hx | hx
    · exact h0.bes x hx
    · obtain ⟨u, hu, rfl⟩ := List.mem_map.mp hx
      exact h.bes u hu
  · rw [h.eq]
    exact List.mem_append_right _ (List.mem_map.mpr ⟨u, hu, rfl⟩)
  · rw [h.eq] at hx
    rcases List.mem_append.mp hx with hx | hx
    · have := (s0.ent x hx).len
      omega
    · obtain ⟨u, hu, rfl⟩ := List.mem_map.mp hx
      exact hu
theorem XMid.add {b j : Nat} {t : List Int} (g : Good pan) (hW : W.length = pan.length) (hb : b < pan.length) (s0 : SInv pan W i L ts) (h0 : XInv pan i L ts) (sm : SMid pan W i L ts b j L' us) (h : XMid pan i L ts b j L' us) (ht : ts[j]? = some t) {x : List Key × List Int} (hx : x ∈ L) (hxe : effM pan x.2 = effM pan t) (hp : partB (effM pan ((b : Int) :: t)) W = true) (hn : kStr (effM pan ((b : Int) :: t)) ∉ keysB L') : XMid pan i L ts b (j + 1) (L' ++ [(kStr (effM pan ((b : Int) :: t)), (b : Int) :: x.2)]) (us ++ [(b : Int) :: x.2]) := by
  have tm := List.mem_of_getElem? ht
  obtain ⟨tl, te⟩ := h0.lvl t tm
  have ex : x.2 = t := (h0.bes x hx).uniq (h0.bes _ te) hxe
  rw [ex]
  have inr : InRow pan ((b : Int) :: t) := fun y hy => by
    rcases List.mem_cons.mp hy with rfl | hy
    · exact ⟨by omega, by omega⟩
    · exact (s0.lev t tm).1 y hy
  have inL : ∀ k, k ∈ keysB L → k ∈ keysB L' := fun k hk => by
    obtain ⟨z, hz, rfl⟩ := List.mem_map.mp hk
    exact key_mem (sm.sub z hz)
  have ordT : ∀ {k : Nat} {s : List Int}, ts[k]? = some s → j ≤ k → HT.lexLt s t = false := fun {k s} hs hjk => by
    obtain ⟨l1, e1⟩ := List.getElem?_eq_some_iff.mp ht
    obtain ⟨l2, e2⟩ := List.getElem?_eq_some_iff.mp hs
    rcases Nat.lt_or_ge j k with h | h
    · have := List.pairwise_iff_getElem.mp h0.srt j k l1 l2 h
      rw [e1, e2] at this
      exact lexLt_asym this
    · have : j = k := by omega
      subst this
      rw [e1] at e2; subst e2; exact lexLt_irr _
  have bestU : Best pan ((b : Int) :: t) := by
    refine ⟨inr, fun r' hr' e' => ?_⟩
    have hp' : partB (effM pan r') W = true := by rw [e']; exact hp
    have long : ¬ r'.length ≤ i := fun hl => hn (by rw [← e']; exact inL _ (s0.com r' hr' hl hp'))
    refine ⟨by rw [List.length_cons, tl]; omega, fun hl => ?_⟩
    rw [List.length_cons, tl] at hl
    cases r' with
    | nil => simp at hl
    | cons y s =>
      have hy := hr' y List.mem_cons_self
      have hs : InRow pan s := fun z hz => hr' z (List.mem_cons_of_mem _ hz)
      have sl : s.length = i := by simpa using hl
      obtain ⟨c, rfl⟩ : ∃ c : Nat, y = (c : Int) := ⟨y.toNat, (Int.toNat_of_nonneg hy.1).symm⟩
      have hc : c < pan.length := by omega
      have hk := s0.com s hs (by omega) (part_tail hW hp')
      obtain ⟨m, z, hm, _, ez, _⟩ := ent_of s0.ent hk
      have hz := List.mem_of_getElem? hm
      have bz := h0.bes z hz
      have ec := eff_cong g hc ez
      have zin : InRow pan ((c : Int) :: z.2) := fun y hy => by
        rcases List.mem_cons.mp hy with rfl | hy
        · exact ⟨by omega, by omega⟩
        · exact bz.inr y hy
      have zl : z.2.length = i := by
        have h1 := (bz.min s hs ez.symm).1
        refine Nat.le_antisymm (by omega) (Nat.le_of_not_lt fun hlt => ?_)
        refine hn ?_
        rw [← e', ← ec]
        exact inL _ (s0.com _ zin (by rw [List.length_cons]; omega) (by rw [ec]; exact hp'))
      obtain ⟨k, hkz⟩ := List.getElem?_of_mem (h0.all z hz zl)
      have zs : HT.lexLt s z.2 = false := (bz.min s hs ez.symm).2 (by omega)
      have ord : b < c ∨ (b = c ∧ j ≤ k) := by
        refine Classical.byContradiction fun hno => ?_
        refine hn ?_
        rw [← e', ← ec]
        refine sm.don c k z.2 hkz ?_ (by rw [ec]; exact hp')
        rcases Nat.lt_trichotomy b c with h1 | h1 | h1
        · exact absurd (.inl h1) hno
        · exact .inr ⟨h1.symm, Nat.lt_of_not_le fun h2 => hno (.inr ⟨h1, h2⟩)⟩
        · exact .inl h1
      rcases ord with h1 | ⟨rfl, h2⟩
      · exact lexLt_asym (lexLt_hd (by omega) t s)
      · rw [lexLt_cc]
        exact lex_trans (ordT hkz h2) zs
  refine ⟨?_, fun u hu => ?_, fun u hu => ?_, List.pairwise_append.mpr ⟨h.srt, List.pairwise_singleton _ _, fun u hu v hv => ?_⟩⟩
  · rw [h.eq, List.map_append, List.append_assoc]; rfl
  · rcases List.mem_append.mp hu with hu | hu
    · exact h.bes u hu
    · rw [List.mem_singleton.mp hu]; exact bestU
  · rcases List.mem_append.mp hu with hu | hu
    · exact h.skip.frm u hu
    · exact ⟨b, j, t, ht, List.mem_singleton.mp hu, .inr ⟨rfl, Nat.lt_succ_self _⟩⟩
  · rw [List.mem_singleton.mp hv]
    obtain ⟨b', k, s, hs, rfl, h3⟩ := h.frm u hu
    rcases h3 with h3 | ⟨rfl, h4⟩
    · exact lexLt_hd (by omega) _ _
    · rw [lexLt_cc]
      obtain ⟨l1, e1⟩ := List.getElem?_eq_some_iff.mp ht
      obtain ⟨l2, e2⟩ := List.getElem?_eq_some_iff.mp hs
      have := List.pairwise_iff_getElem.mp h0.srt k j l2 l1 h4
      rwa [e1, e2] at this
/-! both together -/
structure SI2 (pan : List (List Int)) (W : List Str) (i : Nat) (L : BL (List Key)) (ts : List (List Int)) : Prop where
  s : SInv pan W i L ts
  x : XInv pan i L ts
structure SM2 (pan : List (List Int)) (W : List Str) (i : Nat) (L : BL (List Key)) (ts : List (List Int)) (b j : Nat) (L' : BL (List Key)) (us : List (List Int)) : Prop where
  s : SMid pan W i L ts b j L' us
  x : XMid pan i L ts b j L' us
theorem SI2.start (g : Good pan) : SI2 pan W 0 [(kStr (effM pan []), [])] [[]] := ⟨.start g, .start⟩
theorem SI2.mid (h : SI2 pan W i L ts) : SM2 pan W i L ts 0 0 L [] := ⟨h.s.mid, XInv.mid⟩
theorem SM2.next {b : Nat} (h : SM2 pan W i L ts b ts.length L' us) : SM2 pan W i L ts (b + 1) 0 L' us := ⟨h.s.next, h.x.next⟩
theorem SM2.skip {b j : Nat} {t : List Int} (h : SM2 pan W i L ts b j L' us) (ht : ts[j]? = some t) (no : partB (effM pan ((b : Int) :: t)) W = true → kStr (effM pan ((b : Int) :: t)) ∈ keysB L') : SM2 pan W i L ts b (j + 1) L' us := ⟨h.s.skip ht no, h.x.skip⟩
theorem SM2.add {b j : Nat} {t : List Int} (g : Good pan) (hW : W.length = pan.length) (h0 : SI2 pan W i L ts) (hb : b < pan.length) (h : SM2 pan W i L ts b j L' us) (ht : ts[j]? = some t) {x : List Key × List Int} (hx : x ∈ L) (hxe : effM pan x.2 = effM pan t) (hp : partB (effM pan ((b : Int) :: t)) W = true) (hn : kStr (effM pan ((b : Int) :: t)) ∉ keysB L') : SM2 pan W i L ts b (j + 1) (L' ++ [(kStr (effM pan ((b : Int) :: t)), (b : Int) :: x.2)]) (us ++ [(b : Int) :: x.2]) :=
  ⟨h.s.add g hb ht hx hxe (h0.s.ent x hx) hn, h.x.add g hW hb h0.s h0.x h.s ht hx hxe hp hn⟩
theorem SM2.done (g : Good pan) (hW : W.length = pan.length) (h0 : SI2 pan W i L ts) (h : SM2 pan W i L ts pan.length 0 L' us) : SI2 pan W (i + 1) L' us := ⟨h.s.done g hW h0.s, h.x.done h0.s h0.x⟩
end Pr
/-! x is True, of bools. -/
namespace Pr
open PySem PySem.Spec PyProof.Rows L2
def rIsT : V → V → Hp → VK → Prop := fun x y H Q => ∃ b : Bool, x = .bl b ∧ y = .bl true ∧ Q (.bl b) H
theorem op_isT {X : Cx} : OpR X (compareOp .Is) rIsT := by
  intro pins s σ H x y v u Q I rx ry h
  obtain ⟨b, rfl, rfl, q⟩ := h
  cases rx; cases ry
  cases b
  · exact wpAny_is_other rfl (by intro z; cases z) (fin_bl I q rfl)
  · exact wpAny_is_self rfl (fin_bl I q rfl)
theorem gv_isT {K : PySem.W.Frag} {σ : L2.St} {H : Hp} {t : TE} {b : Bool} (h : Gv K t σ H (.bool b)) : Gv K (tOp rIsT t (tC (.bl true))) σ H (.bool b) := gv_op2 h gv_bl fun x y H1 Q s hx hy q => by
  cases hx; cases hy
  exact ⟨b, rfl, rfl, q _ _ (Same.refl _) (.bl _)⟩
theorem gv_lt {K : PySem.W.Frag} {σ : L2.St} {H : Hp} {ta tb : TE} {i j : Int} (ha : Gv K ta σ H (.int i)) (hb : Gv K tb σ H (.int j)) : Gv K (tOp (rI0 fun i j => .bl (decide (i < j))) ta tb) σ H (.bool (decide (i < j))) := gv_I0 ha hb fun _ => .bl _
theorem gv_le {K : PySem.W.Frag} {σ : L2.St} {H : Hp} {ta tb : TE} {i j : Int} (ha : Gv K ta σ H (.int i)) (hb : Gv K tb σ H (.int j)) : Gv K (tOp (rI0 fun i j => .bl (decide (i ≤ j))) ta tb) σ H (.bool (decide (i ≤ j))) := gv_I0 ha hb fun _ => .bl _
/-! held and gathered ones exist -/
theorem held_ex {pan : List (List Int)} {st : List Int} (h0 : Hold pan st st) : ∃ hs, IsHeld pan st hs := by
  have key : ∀ (m : Nat) {hs : List Int}, hs.length ≤ m → Hold pan st hs → ∃ hs, IsHeld pan st hs := by
    intro m
    induction m with
    | zero =>
      intro hs hl h
      exact ⟨_, h.done (by omega)⟩
    | succ m ih =>
      intro hs hl h
      by_cases e : (hs.filter (relB pan hs)).length < hs.length
      · exact ih (by omega) h.step
      · exact ⟨_, h.done e⟩
  exact key st.length (Nat.le_refl _) h0
theorem gath_ex {pan : List (List Int)} {goal hs : List Int} (g : Good pan) (hg : Asc pan.length goal) : ∃ G, IsGath pan goal hs G := by
  have key : ∀ (m : Nat) {G Pd : List Int}, pan.length - G.length ≤ m → GInv pan goal hs G Pd → ∃ G, IsGath pan goal hs G := by
    intro m
    induction m with
    | zero =>
      intro G Pd hl h
      have h2 := ginv_step g.rng h
      have l2 := ginv_len h2
      rw [List.length_append] at l2
      have e : relOut pan goal G Pd = [] := List.eq_nil_of_length_eq_zero (by omega)
      rw [e] at h2
      exact ⟨_, ginv_end (G := G ++ []) (by simpa [freeOfM] using h2) fun x => Iff.rfl⟩
    | succ m ih =>
      intro G Pd hl h
      have h2 := ginv_step g.rng h
      have l2 := ginv_len h2
      rw [List.length_append] at l2
      by_cases e : relOut pan goal G Pd = []
      · rw [e] at h2
        exact ⟨_, ginv_end (G := G ++ []) (by simpa [freeOfM] using h2) fun x => Iff.rfl⟩
      · have : 0 < (relOut pan goal G Pd).length := List.length_pos_iff.mpr e
        exact ih (by rw [List.length_append]; omega) h2
  exact key _ (Nat.le_refl _) (ginv_init hg.rng)
end Pr
/-! The laws' own search for shortest rows: sets of decided buttons, layer by layer, and back again. -/
namespace Pr
open PySem PySem.Spec PyProof.Rows L2
def eAt (e : List Str) (c : Int) : Str := e.getD c.toNat wSame
def metL (pan : List (List Int)) (t : List Int) : List Int := (intL pan.length).filter fun c => !decide (wordsM pan t c = wSame)
def wholeM (pan : List (List Int)) (e : List Str) : List Int := (intL pan.length).filter fun c => !decide (eAt e c = wSame)
structure PartR (pan : List (List Int)) (e : List Str) (t : List Int) : Prop where
  inr : InRow pan t
  part : partB (effM pan t) e = true
def decF (pan : List (List Int)) (e : List Str) (S : List Int) (b : Int) : Option (List Int) :=
  if b ∉ S ∧ eAt e b ≠ wOn then none
  else if ∃ c ∈ pan.getD b.toNat [], c ∉ S ∧ eAt e c ≠ wOff then none
  else some ((intL pan.length).filter fun c => decide (c ∈ S ∨ c = b ∨ c ∈ pan.getD b.toNat []))
section
variable {pan : List (List Int)} {e : List Str}
theorem eAt_get (he : e.length = pan.length) {c : Nat} (hc : c < pan.length) : e[c]? = some (eAt e (c : Int)) := by
  unfold eAt
  rw [Int.toNat_natCast, List.getD_eq_getElem?_getD, List.getElem?_eq_getElem (by omega)]; rfl
theorem part_at (he : e.length = pan.length) {t : List Int} : partB (effM pan t) e = true ↔ ∀ c : Nat, c < pan.length → wordsM pan t (c : Int) = wSame ∨ wordsM pan t (c : Int) = eAt e (c : Int) := by
  rw [part_eff he]
  constructor
  · intro h c hc
    exact h c _ (eAt_get he hc)
  · intro h c y hy
    have hc : c < pan.length := by have := (List.getElem?_eq_some_iff.mp hy).1; omega
    rw [eAt_get he hc] at hy
    rw [← Option.some.inj hy]
    exact h c hc
theorem mem_metL {t : List Int} {c : Int} : c ∈ metL pan t ↔ (0 ≤ c ∧ c < (pan.length : Int)) ∧ wordsM pan t c ≠ wSame := by
  unfold metL
  rw [List.mem_filter, mem_intL]
  simp
theorem mem_wholeM {c : Int} : c ∈ wholeM pan e ↔ (0 ≤ c ∧ c < (pan.length : Int)) ∧ eAt e c ≠ wSame := by
  unfold wholeM
  rw [List.mem_filter, mem_intL]
  simp
theorem words_cons (b : Int) (t : List Int) (c : Int) : wordsM pan (b :: t) c = if wordsM pan t c = wSame then wordsM pan [b] c else wordsM pan t c := words_app pan [b] t c
theorem PartR.words (he : e.length = pan.length) {t : List Int} (h : PartR pan e t) {c : Nat} (hc : c < pan.length) : wordsM pan t (c : Int) = if (c : Int) ∈ metL pan t then eAt e (c : Int) else wSame := by
  rcases (part_at he).mp h.part c hc with h1 | h1
  · rw [if_neg fun z => (mem_metL.mp z).2 h1, h1]
  · by_cases h2 : wordsM pan t (c : Int) = wSame
    · rw [if_neg fun z => (mem_metL.mp z).2 h2, h2]
    · rw [if_pos (mem_metL.mpr ⟨by omega, h2⟩), h1]
theorem PartR.eff (he : e.length = pan.length) {t t' : List Int} (h : PartR pan e t) (h' : PartR pan e t') (m : metL pan t = metL pan t') : effM pan t = effM pan t' := eff_ext fun c hc => by rw [h.words he hc, h'.words he hc, m]
theorem metL_eff {t t' : List Int} (h : effM pan t = effM pan t') : metL pan t = metL pan t' := by
  unfold metL
  refine List.filter_congr fun c hc => ?_
  have hr := mem_intL.mp hc
  obtain ⟨k, rfl⟩ : ∃ k : Nat, c = (k : Int) := ⟨c.toNat, (Int.toNat_of_nonneg hr.1).symm⟩
  have h1 := eff_get (pan := pan) (row := t) (c := k) (by omega)
  rw [h, eff_get (by omega)] at h1
  rw [Option.some.inj h1]
theorem PartR.tail (he : e.length = pan.length) {b : Int} {t : List Int} (h : PartR pan e (b :: t)) : PartR pan e t := ⟨fun y hy => h.inr y (List.mem_cons_of_mem _ hy), part_tail he h.part⟩
theorem PartR.suf (he : e.length = pan.length) : ∀ {u s : List Int}, PartR pan e (u ++ s) → PartR pan e s
  | [], _, h => h
  | b :: u, s, h => PartR.suf he (u := u) (h.tail he)
theorem PartR.swap (he : e.length = pan.length) {u s s' : List Int} (h : PartR pan e (u ++ s)) (h' : PartR pan e s') (m : metL pan s = metL pan s') : PartR pan e (u ++ s') ∧ effM pan (u ++ s') = effM pan (u ++ s) := by
  have e1 : effM pan (u ++ s') = effM pan (u ++ s) := by rw [eff_app, eff_app, (h.suf he).eff he h' m]
  refine ⟨⟨fun y hy => ?_, by rw [e1]; exact h.part⟩, e1⟩
  rcases List.mem_append.mp hy with h1 | h1
  · exact h.inr y (List.mem_append_left _ h1)
  · exact h'.inr y h1
theorem whole_eff (he : e.length = pan.length) {t : List Int} (h : PartR pan e t) (m : metL pan t = wholeM pan e) : effM pan t = e := by
  refine List.ext_getElem? fun c => ?_
  rcases Nat.lt_or_ge c pan.length with hc | hc
  · rw [eff_get hc, h.words he hc, eAt_get he hc, m]
    congr 1
    by_cases z : eAt e (c : Int) = wSame
    · rw [if_neg fun y => (mem_wholeM.mp y).2 z, z]
    · rw [if_pos (mem_wholeM.mpr ⟨by omega, z⟩)]
  · rw [List.getElem?_eq_none (by rw [effM_len]; exact hc), List.getElem?_eq_none (by omega)]
theorem eff_whole (he : e.length = pan.length) {t : List Int} (h : effM pan t = e) : metL pan t = wholeM pan e := by
  unfold metL wholeM
  refine List.filter_congr fun c hc => ?_
  have hr := mem_intL.mp hc
  obtain ⟨k, rfl⟩ : ∃ k : Nat, c = (k : Int) := ⟨c.toNat, (Int.toNat_of_nonneg hr.1).symm⟩
  have h1 := eff_get (pan := pan) (row := t) (c := k) (by omega)
  rw [h, eAt_get he (by omega)] at h1
  rw [Option.some.inj h1]
/-- one press more, ahead -/
theorem decF_eq (g : Good pan) (he : e.length = pan.length) {t : List Int} (h : PartR pan e t) {b : Int} (h0 : 0 ≤ b) (h1 : b < (pan.length : Int)) : decF pan e (metL pan t) b = if partB (effM pan (b :: t)) e = true then some (metL pan (b :: t)) else none := by
  have self : b ∉ pan.getD b.toNat [] := by
    have hl : b.toNat < pan.length := by omega
    have := g.own b.toNat pan[b.toNat] (List.getElem?_eq_getElem hl)
    rw [List.getD_eq_getElem?_getD, List.getElem?_eq_getElem hl]
    rw [Int.toNat_of_nonneg h0] at this
    exact this
  have rng : ∀ c ∈ pan.getD b.toNat [], 0 ≤ c ∧ c < (pan.length : Int) := fun c hc => by
    have hl : b.toNat < pan.length := by omega
    rw [List.getD_eq_getElem?_getD, List.getElem?_eq_getElem hl] at hc
    exact g.rng _ (List.getElem_mem hl) c hc
  unfold decF
  by_cases hp : partB (effM pan (b :: t)) e = true
  · have hw := (part_at he).mp hp
    rw [if_pos hp, if_neg, if_neg]
    · congr 1
      unfold metL
      refine List.filter_congr fun c hc => ?_
      have hr := mem_intL.mp hc
      rw [words_cons, wordOne, Bool.eq_iff_iff, decide_eq_true_eq]
      simp only [Bool.not_eq_true', decide_eq_false_iff_not]
      rw [List.mem_filter, mem_intL]
      by_cases hs : wordsM pan t c = wSame
      · rw [if_pos hs]
        by_cases e1 : b = c
        · subst e1
          simp only [if_pos, hs]
          exact ⟨fun _ => same_ne_on.symm, fun _ => .inr (.inl trivial)⟩
        · rw [if_neg e1]
          by_cases e2 : c ∈ pan.getD b.toNat []
          · rw [if_pos e2]
            exact ⟨fun _ => same_ne_off.symm, fun _ => .inr (.inr e2)⟩
          · rw [if_neg e2]
            refine ⟨fun z => ?_, fun z => absurd rfl z⟩
            rcases z with z | z | z
            · simp [hs] at z
            · exact absurd z.symm e1
            · exact absurd z e2
      · rw [if_neg hs]
        refine ⟨fun _ => hs, fun _ => .inl ⟨hr, ?_⟩⟩
        simp [hs]
    · rintro ⟨c, hc, n1, n2⟩
      have hr := rng c hc
      obtain ⟨k, rfl⟩ : ∃ k : Nat, c = (k : Int) := ⟨c.toNat, (Int.toNat_of_nonneg hr.1).symm⟩
      have hs : wordsM pan t (k : Int) = wSame := Classical.byContradiction fun z => n1 (mem_metL.mpr ⟨hr, z⟩)
      have := hw k (by omega)
      have bk : b ≠ (k : Int) := fun z => self (z ▸ hc)
      rw [words_cons, if_pos hs, wordOne, if_neg bk, if_pos hc] at this
      rcases this with z | z
      · exact same_ne_off z.symm
      · exact n2 z.symm
    · rintro ⟨n1, n2⟩
      obtain ⟨k, rfl⟩ : ∃ k : Nat, b = (k : Int) := ⟨b.toNat, (Int.toNat_of_nonneg h0).symm⟩
      have hs : wordsM pan t (k : Int) = wSame := Classical.byContradiction fun z => n1 (mem_metL.mpr ⟨⟨h0, h1⟩, z⟩)
      have := hw k (by omega)
      rw [words_cons, if_pos hs, wordOne, if_pos rfl] at this
      rcases this with z | z
      · exact same_ne_on z.symm
      · exact n2 z.symm
  · rw [if_neg hp]
    by_cases c1 : b ∉ metL pan t ∧ eAt e b ≠ wOn
    · rw [if_pos c1]
    · rw [if_neg c1]
      refine if_pos (Classical.byContradiction fun hno => hp ((part_at he).mpr fun k hk => ?_))
      rw [words_cons, wordOne]
      by_cases hs : wordsM pan t (k : Int) = wSame
      · rw [if_pos hs]
        have nm : (k : Int) ∉ metL pan t := fun z => (mem_metL.mp z).2 hs
        by_cases e1 : b = (k : Int)
        · rw [if_pos e1]
          right
          refine (Classical.byContradiction fun z => c1 ⟨by rw [e1]; exact nm, by rw [e1]; exact fun y => z y.symm⟩)
        · rw [if_neg e1]
          by_cases e2 : (k : Int) ∈ pan.getD b.toNat []
          · rw [if_pos e2]
            right
            exact Classical.byContradiction fun z => hno ⟨(k : Int), e2, nm, fun y => z y.symm⟩
          · rw [if_neg e2]; exact .inl rfl
      · rw [if_neg hs]
        exact (part_at he).mp h.part k hk
/-- at which distance a set of decided buttons is met first -/
structure Dist (pan : List (List Int)) (e : List Str) (k : Nat) (S : List Int) : Prop where
  row : ∃ t, PartR pan e t ∧ t.length = k ∧ metL pan t = S
  min : ∀ t, PartR pan e t → metL pan t = S → k ≤ t.length
theorem Dist.uniq {k m : Nat} {S : List Int} (a : Dist pan e k S) (b : Dist pan e m S) : k = m := by
  obtain ⟨t, h1, h2, h3⟩ := a.row
  obtain ⟨u, g1, g2, g3⟩ := b.row
  have := a.min u g1 g3
  have := b.min t h1 h3
  omega
theorem Dist.ex {t : List Int} (h : PartR pan e t) : ∃ k, k ≤ t.length ∧ Dist pan e k (metL pan t) := by
  classical
  have key : ∀ m : Nat, ∀ t : List Int, t.length ≤ m → PartR pan e t → ∃ k, k ≤ t.length ∧ Dist pan e k (metL pan t) := by
    intro m
    induction m with
    | zero => intro t hl h; exact ⟨t.length, Nat.le_refl _, ⟨⟨t, h, rfl, rfl⟩, fun u _ _ => by omega⟩⟩
    | succ m ih =>
      intro t hl h
      by_cases hm : ∀ u, PartR pan e u → metL pan u = metL pan t → t.length ≤ u.length
      · exact ⟨t.length, Nat.le_refl _, ⟨⟨t, h, rfl, rfl⟩, hm⟩⟩
      · obtain ⟨u, hu⟩ := Classical.not_forall.mp hm
        obtain ⟨hu1, hu⟩ := Classical.not_imp.mp hu
        obtain ⟨hu2, hu3⟩ := Classical.not_imp.mp hu
        obtain ⟨k, k1, k2⟩ := ih u (by omega) hu1
        exact ⟨k, by omega, hu2 ▸ k2⟩
  exact key _ t (Nat.le_refl _) h
/-- the end of a shortest row is shortest -/
theorem Dist.suf (he : e.length = pan.length) {u s : List Int} (h : PartR pan e (u ++ s)) (d : Dist pan e (u ++ s).length (metL pan (u ++ s))) : Dist pan e s.length (metL pan s) := by
  refine ⟨⟨s, h.suf he, rfl, rfl⟩, fun s' hs' m => ?_⟩
  obtain ⟨h1, h2⟩ := h.swap he hs' m.symm
  have := d.min _ h1 (metL_eff h2)
  rw [List.length_append, List.length_append] at this
  omega
theorem Dist.all (he : e.length = pan.length) {K : Nat} {S : List Int} (d : Dist pan e K S) {k : Nat} (hk : k ≤ K) : ∃ S', Dist pan e k S' := by
  obtain ⟨t, h1, h2, h3⟩ := d.row
  have et : t = t.take (K - k) ++ t.drop (K - k) := (List.take_append_drop _ _).symm
  have := Dist.suf (pan := pan) (e := e) he (u := t.take (K - k)) (s := t.drop (K - k)) (by rw [← et]; exact h1) (by rw [← et, h3, h2]; exact d)
  rw [List.length_drop, h2, show K - (K - k) = k by omega] at this
  exact ⟨_, this⟩
theorem Dist.nil (he : e.length = pan.length) : Dist pan e 0 (metL pan []) := ⟨⟨[], ⟨(fun _ h => by cases h), part_nil he⟩, rfl, rfl⟩, fun _ _ _ => Nat.zero_le _⟩
theorem metL_nil : metL pan [] = [] := by
  unfold metL
  refine List.filter_eq_nil_iff.mpr fun c _ => ?_
  show ¬ (!decide (wSame = wSame)) = true
  decide
theorem dist0 {S : List Int} (d : Dist pan e 0 S) : S = [] := by
  obtain ⟨t, _, h2, h3⟩ := d.row
  rw [List.eq_nil_of_length_eq_zero h2, metL_nil] at h3
  exact h3.symm
/-- what is found with one press more -/
theorem Dist.step (g : Good pan) (he : e.length = pan.length) {k : Nat} {S S' : List Int} (d : Dist pan e k S) {b : Int} (h0 : 0 ≤ b) (h1 : b < (pan.length : Int)) (hd : decF pan e S b = some S') : ∃ m, m ≤ k + 1 ∧ Dist pan e m S' := by
  obtain ⟨t, t1, t2, t3⟩ := d.row
  rw [← t3, decF_eq g he t1 h0 h1] at hd
  by_cases hp : partB (effM pan (b :: t)) e = true
  · rw [if_pos hp] at hd
    obtain ⟨m, m1, m2⟩ := Dist.ex (pan := pan) (e := e) (t := b :: t) ⟨fun y hy => (List.mem_cons.mp hy).elim (fun z => by rw [z]; exact ⟨h0, h1⟩) (t1.inr y), hp⟩
    exact ⟨m, by rw [List.length_cons] at m1; omega, Option.some.inj hd ▸ m2⟩
  · rw [if_neg hp] at hd; cases hd
theorem Dist.pred (g : Good pan) (he : e.length = pan.length) {k : Nat} {S' : List Int} (d : Dist pan e (k + 1) S') : ∃ S b, Dist pan e k S ∧ b ∈ wholeM pan e ∧ decF pan e S b = some S' := by
  obtain ⟨t, t1, t2, t3⟩ := d.row
  cases t with
  | nil => simp at t2
  | cons b t =>
    have tl : t.length = k := by simpa using t2
    have hb := t1.inr b List.mem_cons_self
    have h2 := t1.tail he
    have d2 := Dist.suf (pan := pan) (e := e) he (u := [b]) (s := t) t1 (by rw [show [b] ++ t = b :: t from rfl, t2, t3]; exact d)
    rw [tl] at d2
    refine ⟨metL pan t, b, d2, ?_, ?_⟩
    · refine mem_wholeM.mpr ⟨hb, fun z => ?_⟩
      obtain ⟨c, rfl⟩ : ∃ c : Nat, b = (c : Int) := ⟨b.toNat, (Int.toNat_of_nonneg hb.1).symm⟩
      have hm : wordsM pan ((c : Int) :: t) (c : Int) ≠ wSame := fun y => words_iff.mp y (.inl List.mem_cons_self)
      rcases (part_at he).mp t1.part c (by omega) with y | y
      · exact hm y
      · rw [z] at y; exact hm y
    · rw [decF_eq g he h2 hb.1 hb.2, if_pos t1.part, t3]
end
/-! back again -/
/-- rows of one length, not behind one another -/
def NotBehind (r p : List Int) : Prop := HT.lexLt r p = false
structure BackI (pan : List (List Int)) (e : List Str) (K j : Nat) (p : List Int) (now : List (List Int)) : Prop where
  len : p.length = j
  mem : ∀ S, S ∈ now ↔ ∃ s, PartR pan e (p ++ s) ∧ s.length = K - j ∧ metL pan s = S ∧ metL pan (p ++ s) = wholeM pan e
  lex : ∀ r, PartR pan e r → r.length = K → metL pan r = wholeM pan e → HT.lexLt (r.take j) p = false
  ne : now ≠ []
section
variable {pan : List (List Int)} {e : List Str} {K j : Nat} {p : List Int} {now : List (List Int)}
theorem BackI.start (d : Dist pan e K (wholeM pan e)) : BackI pan e K 0 [] [wholeM pan e] := by
  refine ⟨rfl, fun S => ?_, fun r _ _ _ => lexLt_irr [], by simp⟩
  rw [List.mem_singleton]
  constructor
  · rintro rfl
    obtain ⟨t, t1, t2, t3⟩ := d.row
    exact ⟨t, t1, by omega, t3, t3⟩
  · rintro ⟨s, _, _, h3, h4⟩
    rw [← h3]; exact h4
/-- the sets of the layer before that come to one of now by a press of b -/
theorem BackI.found (g : Good pan) (he : e.length = pan.length) (d : Dist pan e K (wholeM pan e)) (h : BackI pan e K j p now) (hj : j < K) {b : Int} (h0 : 0 ≤ b) (h1 : b < (pan.length : Int)) {S : List Int} :
    (Dist pan e (K - (j + 1)) S ∧ ∃ S1, decF pan e S b = some S1 ∧ S1 ∈ now) ↔ ∃ s, PartR pan e (p ++ [b] ++ s) ∧ s.length = K - (j + 1) ∧ metL pan s = S ∧ metL pan (p ++ [b] ++ s) = wholeM pan e := by
  constructor
  · rintro ⟨ds, S1, hd, hn⟩
    obtain ⟨s, s1, s2, s3⟩ := ds.row
    rw [← s3, decF_eq g he s1 h0 h1] at hd
    by_cases hp : partB (effM pan (b :: s)) e = true
    · rw [if_pos hp] at hd
      obtain ⟨u, u1, u2, u3, u4⟩ := (h.mem S1).mp hn
      have pb : PartR pan e (b :: s) := ⟨fun y hy => (List.mem_cons.mp hy).elim (fun z => by rw [z]; exact ⟨h0, h1⟩) (s1.inr y), hp⟩
      obtain ⟨w1, w2⟩ := u1.swap he pb (by rw [u3]; exact (Option.some.inj hd).symm)
      refine ⟨s, ?_, s2, s3, ?_⟩
      · rw [List.append_assoc]; exact w1
      · rw [List.append_assoc]; rw [show [b] ++ s = b :: s from rfl, metL_eff w2]; exact u4
    · rw [if_neg hp] at hd; cases hd
  · rintro ⟨s, s1, s2, s3, s4⟩
    have hs := s1.suf he
    have hl : (p ++ [b] ++ s).length = K := by rw [List.length_append, List.length_append, h.len, s2]; show j + 1 + _ = K; omega
    have ds := Dist.suf (pan := pan) (e := e) he s1 (by rw [hl, s4]; exact d)
    rw [s2, s3] at ds
    have s1' : PartR pan e (p ++ (b :: s)) := by rw [List.append_assoc] at s1; exact s1
    have pb := s1'.suf he
    refine ⟨ds, metL pan (b :: s), by rw [← s3, decF_eq g he hs h0 h1, if_pos pb.part], (h.mem _).mpr ⟨b :: s, s1', by rw [List.length_cons, s2]; omega, rfl, by rw [List.append_assoc] at s4; exact s4⟩⟩
theorem BackI.one (he : e.length = pan.length) (h : BackI pan e K j p now) (hj : j < K) : ∃ (b : Nat) (s : List Int), b < pan.length ∧ PartR pan e (p ++ [(b : Int)] ++ s) ∧ s.length = K - (j + 1) ∧ metL pan (p ++ [(b : Int)] ++ s) = wholeM pan e := by
  obtain ⟨S, hS⟩ := List.exists_mem_of_ne_nil _ h.ne
  obtain ⟨s, s1, s2, s3, s4⟩ := (h.mem S).mp hS
  cases s with
  | nil => simp at s2; omega
  | cons b s =>
    have hb := s1.inr b (List.mem_append_right _ List.mem_cons_self)
    obtain ⟨c, rfl⟩ : ∃ c : Nat, b = (c : Int) := ⟨b.toNat, (Int.toNat_of_nonneg hb.1).symm⟩
    exact ⟨c, s, by omega, by rw [List.append_assoc]; exact s1, by rw [List.length_cons] at s2; omega, by rw [List.append_assoc]; exact s4⟩
theorem lex_ext : ∀ {a q : List Int} {x y : Int}, a.length = q.length → HT.lexLt a q = false → (a = q → ¬ x < y) → HT.lexLt (a ++ [x]) (q ++ [y]) = false
  | [], [], x, y, _, _, h => by
    show HT.lexLt [x] [y] = false
    rw [HT.lexLt_cons]
    have := h rfl
    by_cases e : x = y
    · rw [if_pos e]; exact lexLt_irr []
    · rw [if_neg e]; exact decide_eq_false this
  | [], _ :: _, _, _, h, _, _ => by cases h
  | _ :: _, [], _, _, h, _, _ => by cases h
  | c :: a, f :: q, x, y, hl, hh, h => by
    rw [List.cons_append, List.cons_append]
    rw [HT.lexLt_cons] at hh ⊢
    by_cases e : c = f
    · subst e
      rw [if_pos rfl] at hh ⊢
      exact lex_ext (by simpa using hl) hh fun z => h (by rw [z])
    · rw [if_neg e] at hh ⊢; exact hh
theorem BackI.next (g : Good pan) (he : e.length = pan.length) (d : Dist pan e K (wholeM pan e)) (h : BackI pan e K j p now) (hj : j < K) {b : Nat} (hb : b < pan.length) {fs : List (List Int)}
    (hf : ∀ S, S ∈ fs ↔ Dist pan e (K - (j + 1)) S ∧ ∃ S1, decF pan e S (b : Int) = some S1 ∧ S1 ∈ now) (ne : fs ≠ []) (no : ∀ c : Nat, c < b → ∀ S, ¬ (Dist pan e (K - (j + 1)) S ∧ ∃ S1, decF pan e S (c : Int) = some S1 ∧ S1 ∈ now)) : BackI pan e K (j + 1) (p ++ [(b : Int)]) fs := by
  refine ⟨by rw [List.length_append, h.len]; rfl, fun S => ?_, fun r r1 r2 r3 => ?_, ne⟩
  · rw [hf S, h.found g he d hj (by omega) (by omega)]
  · have hlt : j < r.length := by omega
    rw [List.take_add_one, List.getElem?_eq_getElem hlt]
    show HT.lexLt (r.take j ++ [r[j]]) (p ++ [(b : Int)]) = false
    refine lex_ext (by rw [List.length_take, h.len]; omega) (h.lex r r1 r2 r3) fun ep hx => ?_
    have hr := r1.inr r[j] (List.getElem_mem hlt)
    obtain ⟨c, hc⟩ : ∃ c : Nat, r[j] = (c : Int) := ⟨r[j].toNat, (Int.toNat_of_nonneg hr.1).symm⟩
    rw [hc] at hx hr
    have er : r = p ++ [(c : Int)] ++ r.drop (j + 1) := by
      rw [← ep, ← hc, List.append_assoc]
      show r = r.take j ++ (r[j] :: r.drop (j + 1))
      rw [← List.drop_eq_getElem_cons hlt, List.take_append_drop]
    refine no c (by omega) (metL pan (r.drop (j + 1))) ((h.found g he d hj (by omega) (by omega)).mpr ⟨r.drop (j + 1), ?_, ?_, rfl, ?_⟩)
    · rw [← er]; exact r1
    · rw [List.length_drop]; omega
    · rw [← er]; exact r3
theorem BackI.best (he : e.length = pan.length) (d : Dist pan e K (wholeM pan e)) (h : BackI pan e K K p now) : Best pan p ∧ effM pan p = e := by
  obtain ⟨S, hS⟩ := List.exists_mem_of_ne_nil _ h.ne
  obtain ⟨s, s1, s2, s3, s4⟩ := (h.mem S).mp hS
  have es : s = [] := List.eq_nil_of_length_eq_zero (by omega)
  subst es
  rw [List.append_nil] at s1 s4
  have ep := whole_eff he s1 s4
  refine ⟨⟨s1.inr, fun r' hr' e' => ?_⟩, ep⟩
  have pr : PartR pan e r' := ⟨hr', by rw [e']; exact s1.part⟩
  have mr : metL pan r' = wholeM pan e := by rw [metL_eff e']; exact s4
  refine ⟨by rw [h.len]; exact d.min r' pr mr, fun hl => ?_⟩
  have := h.lex r' pr (by rw [hl, h.len]) mr
  rwa [List.take_of_length_le (by rw [hl, h.len]; exact Nat.le_refl _)] at this
end
end Pr
/-! xs[-2::-1] of a list that is not empty: all but the last one, turned. -/
namespace Pr
open PySem PySem.Spec PyProof.Rows L2
theorem pick_back2 (l : List Value) (h : l ≠ []) : slicePick l.toArray (some (-2)) none (some (-1)) = l.dropLast.reverse.toArray := by
  have hp : 0 < l.length := List.length_pos_iff.mpr h
  unfold slicePick
  have e : sliceBounds (some (-2)) none (some (-1)) l.toArray.size = ((l.length : Int) - 2, -1, -1) := by
    unfold sliceBounds
    simp
    omega
  rw [e]
  unfold sliceRange
  dsimp only
  rw [if_neg (by decide)]
  have hc : (if (l.length : Int) - 2 > -1 then ((l.length : Int) - 2 - -1 - -1 - 1) / (- -1) else 0) = (l.dropLast.length : Int) := by
    rw [List.length_dropLast]
    split
    · simp only [Int.neg_neg, Int.ediv_one]; omega
    · omega
  rw [hc, Int.toNat_natCast, List.filterMap_map]
  have := pick_back l.dropLast
  refine congrArg _ (Eq.trans (fm_congr fun k hk => ?_) this)
  have hk := List.mem_range.mp hk
  rw [List.length_dropLast] at hk
  show l.toArray[((l.length : Int) - 2 + -1 * (k : Int)).toNat]? = l.dropLast[((l.dropLast.length : Int) - 1 + (k : Int) * (-1)).toNat]?
  rw [List.getElem?_toArray, List.getElem?_dropLast, List.length_dropLast]
  have e3 : ((l.length : Int) - 2 + -1 * (k : Int)).toNat = (((l.length - 1 : Nat) : Int) - 1 + (k : Int) * (-1)).toNat := by omega
  rw [e3, if_pos (by omega)]
section
variable {X : Cx}
def tRevL2 (K : PySem.W.Frag) (te : TE) : TE := fun σ H Q => te σ H fun x H1 => ∃ a xs, x = .ref a ∧ SqL K H1 a xs ∧ xs ≠ [] ∧ ∀ p, H1 p = none → Q (.ref p) (upd H1 p (.lst xs.dropLast.reverse))
theorem pe_revL2 {e : Expr} {te : TE} {k k2 : Nat} {p1 p2 p3 p4 p5 pos : Pos} (he : PE X e te) : PE X (.Subscript e (.Slice (some (.UnaryOp .USub (.Constant (.int 2) k2 p4) p5)) none (some (.UnaryOp .USub (.Constant (.int 1) k p1) p2)) p3) pos) (tRevL2 X.K te) := by
  refine ⟨fun pins s σ H Q I h => Subscript_ (thn (he.run pins s σ H _ I h) fun v s1 ⟨x, H1, I1, r1, a, xs, ex, hx, hne, q⟩ => ?_)⟩
  subst ex
  cases r1
  have hst : PO X (some (.UnaryOp .USub (.Constant (.int 1) k p1) p2)) (tPart (tUn (rU fun i => .int (-i)) (tC (.int 1)))) := po_some (pe_un un_neg pe_int)
  have hlo : PO X (some (.UnaryOp .USub (.Constant (.int 2) k2 p4) p5)) (tPart (tUn (rU fun i => .int (-i)) (tC (.int 2)))) := po_some (pe_un un_neg pe_int)
  refine wpAny_Slice (thn (hlo.run pins s1 σ H1 (fun o H2 => o = some (-2) ∧ H2 = H1) I1 ⟨2, rfl, -2, rfl, rfl, rfl⟩) fun vl s2 ⟨l, H2, I2, pl, el, e2⟩ => ?_)
  subst el e2
  refine thn (po_none.run pins s2 σ H2 (fun o H3 => o = none ∧ H3 = H2) I2 ⟨rfl, rfl⟩) fun vu s3 ⟨u, H3, I3, pu, eu, e3⟩ => ?_
  subst eu e3
  refine thn (hst.run pins s3 σ H3 (fun o H4 => o = some (-1) ∧ H4 = H3) I3 ⟨1, rfl, -1, rfl, rfl, rfl⟩) fun vs s4 ⟨o, H4, I4, ps, eo, e4⟩ => ?_
  subst eo e4
  cases pu
  have I5 : Inv X pins σ H4 { s4 with heap := s4.heap.push { cls := .type "slice", data := .fields #[vl, .none, vs] } } := I4.kept (t' := s4.toks) fun b ob q => Heap.get?_push_of_some _ q
  obtain ⟨its, r, ht, hz⟩ := I5.list hx
  have hlen := r.length
  have hnei : its ≠ [] := fun z => by rw [z] at hlen; simp at hlen; exact hne hlen
  show wpAny (model X.prog X.w) X.A (subscriptTail e (.Slice (some (.UnaryOp .USub (.Constant (.int 2) k2 p4) p5)) none (some (.UnaryOp .USub (.Constant (.int 1) k p1) p2)) p3) (.ref a) (.ref s4.heap.objs.size)) (EP X pins σ Q) X.xe { s4 with heap := s4.heap.push { cls := .type "slice", data := .fields #[vl, .none, vs] } }
  refine tail_any (ops := [.ref a, .ref s4.heap.objs.size]) ht.isList.typeIs (slot_list_getitem.lookup) ?_ (by with_unfolding_all rfl)
  refine wpAny_getItem_list_slice ht.isList (Heap.IsSliceOf.new _ vl .none vs) pl .none ps (by decide) ?_ (by rw [List.size_toArray]; omega)
  rw [pick_back2 its hnei]
  have rd : Vals xs.dropLast its.dropLast := by
    have key : ∀ {xs : List V} {its : List Value}, Vals xs its → Vals xs.dropLast its.dropLast := by
      intro xs its h
      induction h with
      | nil => exact .nil
      | cons hh tt ih =>
        cases tt with
        | nil => exact .nil
        | cons h2 t2 => exact .cons hh ih
    exact key r
  refine ⟨.ref _, _, I5.laid (t' := s4.toks) (o := .lst xs.dropLast.reverse) (fun b ob q => Heap.get?_push_of_some _ q) (Nat.le_refl _) ?_, rfl, q _ (I5.hok.fresh (Nat.le_refl _))⟩
  exact ⟨by rw [List.length_reverse, List.length_dropLast]; omega, _, 0, rd.reverse, Heap.get?_push_size _ rfl⟩
end
end Pr
/-! a dict that only says what is known; a search that stops at its goal. -/
namespace Pr
open PySem PySem.Spec PyProof.Rows L2
/-- the dict of the things known -/
def DictU (H : Hp) (d : Addr) (L : BL (List Key)) : Prop := ∃ vs : List V, vs.length = L.length ∧ H d = some (.dT ((L.map (·.1)).zip vs))
theorem DictU.same {H H' : Hp} {d : Addr} {L : BL (List Key)} (h : DictU H d L) (s : Same H H') : DictU H' d L := let ⟨vs, l, e⟩ := h; ⟨vs, l, s _ _ e⟩
theorem DictU.none {H : Hp} {d a : Addr} {L : BL (List Key)} {k : List Key} (h : DictU H d L) (hk : k ∉ L.map (·.1)) (ea : H a = some (.tup (k.map kV))) : DGet H d (.ref a) none := by
  obtain ⟨vs, l, e⟩ := h
  have := DGet.t (k := k) e ea
  rwa [val_zip_none hk] at this
theorem DictU.some {H : Hp} {d a : Addr} {L : BL (List Key)} {k : List Key} (h : DictU H d L) (nd : (L.map (·.1)).Nodup) (hk : k ∈ L.map (·.1)) (ea : H a = some (.tup (k.map kV))) : ∃ v, DGet H d (.ref a) (some v) := by
  obtain ⟨vs, l, e⟩ := h
  obtain ⟨i, hi⟩ := List.getElem?_of_mem hk
  have hl : i < vs.length := by
    have := (List.getElem?_eq_some_iff.mp hi).1
    rw [List.length_map] at this; omega
  refine ⟨vs[i], ?_⟩
  have := DGet.t (k := k) e ea
  rwa [val_zip nd hi (List.getElem?_eq_getElem hl)] at this
theorem DictU.put {H : Hp} {d a : Addr} {L : BL (List Key)} {k : List Key} {r : List Int} {v : V} (h : DictU H d L) (hk : k ∉ L.map (·.1)) (ea : H a = .some (.tup (k.map kV))) (hl : L.length < 100000) :
    ∃ H', DPut H d (.ref a) v H' ∧ DictU H' d (L ++ [(k, r)]) ∧ Kp H H' ∧ ∀ b o, b ≠ d → H b = .some o → H' b = .some o := by
  obtain ⟨vs, lv, e⟩ := h
  refine ⟨_, DPut.t (k := k) (v := v) e ea (by rw [List.length_zip, List.length_map, lv, Nat.min_self]; exact small5 (by omega)), ?_, kp_dT e, fun b o hb eb => by rw [upd_ne hb]; exact eb⟩
  rw [putK_new v (val_zip_none hk)]
  refine ⟨vs ++ [v], by rw [List.length_append, List.length_append, lv]; rfl, ?_⟩
  rw [upd_same, List.map_append, List.zip_append (by rw [List.length_map, lv])]; rfl
/-- what stands in the list of a search: the row and the thing -/
def WayAt (K : PySem.W.Frag) (H : Hp) (a : Addr) (x : List Key × List Int) : Prop := ∃ r t : Addr, H a = some (.tup [.ref r, .ref t]) ∧ SqT K H r (x.2.map V.int) ∧ H t = some (.tup (x.1.map kV))
theorem WayAt.same {K : PySem.W.Frag} {H H' : Hp} {a : Addr} {x : List Key × List Int} (h : WayAt K H a x) (s : Same H H') : WayAt K H' a x := let ⟨r, t, e1, e2, e3⟩ := h; ⟨r, t, s _ _ e1, same_sqT s e2, s _ _ e3⟩
theorem WayAt.kp {K : PySem.W.Frag} {H H' : Hp} {a : Addr} {x : List Key × List Int} (h : WayAt K H a x) (k : Kp H H') : WayAt K H' a x := let ⟨r, t, e1, e2, e3⟩ := h; ⟨r, t, k.1 _ _ e1, sqT_kp k e2, k.1 _ _ e3⟩
theorem find_pre {L L' : BL (List Key)} (p : L <+: L') {i : Nat} {x : List Key × List Int} (hi : L[i]? = some x) (nd : (L'.map (·.1)).Nodup) : L'.find? (fun y => decide (y.1 = x.1)) = some x := by
  obtain ⟨t, rfl⟩ := p
  have hm : x ∈ L ++ t := List.mem_append_left _ (List.mem_of_getElem? hi)
  generalize L ++ t = M at nd hm
  clear hi
  induction M with
  | nil => cases hm
  | cons y r ih =>
    rw [List.map_cons, List.nodup_cons] at nd
    rw [List.find?_cons]
    rcases List.mem_cons.mp hm with rfl | hm
    · rw [decide_eq_true rfl]
    · have : y.1 ≠ x.1 := fun z => nd.1 (by rw [z]; exact List.mem_map_of_mem hm)
      rw [decide_eq_false this]
      exact ih nd.2 hm
theorem way_hit {L L' : BL (List Key)} (p : L <+: L') {i : Nat} {x : List Key × List Int} (hi : L[i]? = some x) (nd : (L'.map (·.1)).Nodup) : wayOf L' x.1 = dInts x.2 := by
  unfold wayOf
  rw [find_pre p hi nd]
theorem way_miss {L : BL (List Key)} {k : List Key} (h : ∀ x ∈ L, x.1 ≠ k) : wayOf L k = .none := by
  unfold wayOf
  rw [List.find?_eq_none.mpr fun x hx => by simpa using h x hx]
theorem eqv_dInts (a b : List Int) : PyData.eqv (dInts a) (dInts b) = decide (a = b) := by
  unfold dInts
  simp only [PyData.eqv]
  exact eqv_intsL a b
/-! ### a comprehension over a list of references -/
section
variable {K : PySem.W.Frag} {σ : L2.St} {H : Hp} {t te : TE} {gs : List Addr}
/-- t gives a list of references -/
def GvRL (t : TE) (σ : L2.St) (H : Hp) (gs : List Addr) : Prop := ∀ H1, Same H H1 → ∀ Q : VK, (∀ a H', Same H1 H' → H' a = some (.lst (gs.map V.ref)) → Q (.ref a) H') → t σ H1 Q
theorem grl_var {j : Nat} {a : Addr} (hj : σ[j]? = some (some (.ref a))) (e : H a = some (.lst (gs.map V.ref))) : GvRL (tVar j) σ H gs := fun H1 s Q q => ⟨.ref a, hj, q a H1 (Same.refl _) (s _ _ e)⟩
theorem grl_rev (h : GvRL t σ H gs) : GvRL (tRevL K t) σ H gs.reverse := fun H1 s Q q => h H1 s _ fun a H2 s2 e => ⟨a, _, rfl, .inl (.inl e), fun p np => q p _ (s2.trans (same_new np)) (by rw [upd_same, List.map_reverse])⟩
theorem gn_lcR {i : Nat} {f : Addr → PyData} (h : GvRL t σ H gs)
    (hb : ∀ a H1, a ∈ gs → Same H H1 → Gv K te ((σ.set i none).set i (some (.ref a))) H1 (f a))
    (hf : ∀ a ∈ gs, lf (f a) = true) (hn : gs.length ≤ 100000) : GvN K (tLc (iList K t) (gName i) tYes te [i]) σ H (gs.map f) := by
  intro H0 s0 Q q
  refine h H0 s0 _ fun a H1 s1 ea => ?_
  refine ⟨a, rfl, ⟨_, .inl (.inl ea)⟩, fun D nD => ?_⟩
  have w : Walk (Itl K a) gs.length (Same H1) (fun i h x h' => Same h h' ∧ ∃ g, gs[i]? = some g ∧ x = .ref g) := by
    have : gs.length = (gs.map V.ref).length := (List.length_map _).symm
    rw [this]
    refine walk_list.mono (fun h e => e.seq (.inl (.inl ea))) fun i h x h' hi e y => ?_
    obtain ⟨rfl, y⟩ := y
    rw [List.getElem?_map] at y
    cases hg : gs[i]? with
    | none => rw [hg] at y; cases y
    | some g => rw [hg] at y; cases y; exact ⟨Same.refl _, g, rfl, rfl⟩
  refine lc_it w (LcP K H1 D fun k => (gs.take k).map f) ⟨fun b o hb e => by rw [upd_ne hb]; exact e, [], upd_same, .nil, Nat.zero_le _⟩ (fun k H2 _ hP b o e => hP.1 b o (ne_of_none e nD) e) (fun k x H2 H3 hk hP hY => ?_) (fun H2 hP => ?_)
  · obtain ⟨s2, acc, eD, hacc, la⟩ := hP
    obtain ⟨s3, g, hg, rfl⟩ := hY
    rw [List.getElem?_eq_getElem hk] at hg
    cases hg
    have sH : Same H H3 := (s0.trans s1).trans fun b o e => s3 _ _ (s2 b o (ne_of_none e nD) e)
    refine ⟨by show ((σ.set i none).set i (some (V.ref gs[k]))).set i none = σ.set i none; rw [List.set_set, List.set_set], tyes ?_⟩
    rw [if_pos rfl]
    refine (hb gs[k] H3 (List.getElem_mem _) sH).at fun y H5 s5 dy => ⟨acc, s5 _ _ (s3 _ _ eD), small5 (by omega), ?_⟩
    refine lcP_yes s2 (s3.trans s5) eD hacc la dy ?_ (lfAll_of fun d hd => ?_)
    · show (gs.take (k + 1)).map f = (gs.take k).map f ++ [f gs[k]]
      rw [List.take_succ_eq_append_getElem hk, List.map_append]; rfl
    · obtain ⟨z, hz, rfl⟩ := List.mem_map.mp hd
      exact hf z (List.mem_of_mem_take hz)
  · obtain ⟨s2, acc, eD, hacc, la⟩ := hP
    replace hacc : DpAll K H2 acc ((gs.take gs.length).map f) := hacc
    rw [List.take_length] at hacc
    exact q _ _ H2 (s1.trans fun b o e => s2 b o (ne_of_none e nD) e) (s1.free nD) eD hacc
end
theorem srt2 {a b : Int} (h : a ≠ b) : srt [a, b] = if a < b then [a, b] else [b, a] := by
  by_cases hl : a < b
  · rw [if_pos hl]
    exact srt_self (by simp [hl])
  · rw [if_neg hl]
    have p : (srt [a, b]).Perm [b, a] := (srt_perm _).trans (List.Perm.swap _ _ _)
    have u := srt_up [a, b]
    have u2 : [b, a].Pairwise (· ≤ ·) := by simp; omega
    exact List.Perm.eq_of_pairwise (fun x y _ _ h1 h2 => Int.le_antisymm h1 h2) u u2 p
end Pr
namespace K14
open PySem PySem.Spec PyProof.Rows L2 Pr

theorem gs_setQS {σ : L2.St} {H : Hp} {t : TE} {i : Nat} {u : TS} {D : Ends} (h : t σ H fun v H' => u D (σ.set i (some v)) H') : tSeq (tAsg t (gName i)) u D σ H := h
theorem gs_seqS {t u : TS} {D : Ends} {σ : L2.St} {H : Hp} (J : L2.St → Hp → Prop) (hk : ∀ σ' H', J σ' H' → u D σ' H') (h : (∀ σ' H', J σ' H' → u D σ' H') → t { D with nx := u D } σ H) : tSeq t u D σ H := h hk
/-- at the head of a level -/
def ShI (K : PySem.W.Frag) (H : Hp) (pan : List (List Int)) (row : List Int) (p rr w d : Addr) (m : Nat) (σ : L2.St) (H' : Hp) : Prop :=
  ∃ (i : Nat) (L : BL (List Key)) (ts : List (List Int)) (lv : Addr) (as : List Addr) (x5 x6 x7 x8 : Option V), m = (plainM row).length + 1 - i ∧ i ≤ (plainM row).length ∧ σ = [some (.ref p), some (.ref rr), some (.ref w), some (.ref d), some (.ref lv), x5, x6, x7, x8] ∧ Same H H' ∧
    H' w = some (.tup ((effM pan row).map V.str)) ∧ DictB K H' d L ∧ SI2 pan (effM pan row) i L ts ∧ H' lv = some (.lst (as.map V.ref)) ∧ Paired (fun a t => H' a = some (.tup ((effM pan t).map V.str))) as ts
/-- at the head of a button -/
def ShM (K : PySem.W.Frag) (H6 : Hp) (pan : List (List Int)) (row : List Int) (p rr w d lv lo : Addr) (i : Nat) (L : BL (List Key)) (ts : List (List Int)) (b j : Nat) (σ : L2.St) (H' : Hp) : Prop :=
  ∃ (L' : BL (List Key)) (us : List (List Int)) (ls : List Addr) (x6 x7 x8 : Option V), But2 d lo H6 H' ∧ DictB K H' d L' ∧ SM2 pan (effM pan row) i L ts b j L' us ∧ H' lo = some (.lst (ls.map V.ref)) ∧ Paired (fun a t => H' a = some (.tup ((effM pan t).map V.str))) ls us ∧
    σ = [some (.ref p), some (.ref rr), some (.ref w), some (.ref d), some (.ref lv), some (.ref lo), x6, x7, x8]
/-- amid a button -/
def ShMB (K : PySem.W.Frag) (H6 : Hp) (pan : List (List Int)) (row : List Int) (p rr w d lv lo : Addr) (i : Nat) (L : BL (List Key)) (ts : List (List Int)) (b j : Nat) (σ : L2.St) (H' : Hp) : Prop :=
  ∃ (L' : BL (List Key)) (us : List (List Int)) (ls : List Addr) (x7 x8 : Option V), But2 d lo H6 H' ∧ DictB K H' d L' ∧ SM2 pan (effM pan row) i L ts b j L' us ∧ H' lo = some (.lst (ls.map V.ref)) ∧ Paired (fun a t => H' a = some (.tup ((effM pan t).map V.str))) ls us ∧
    σ = [some (.ref p), some (.ref rr), some (.ref w), some (.ref d), some (.ref lv), some (.ref lo), some (.int (b : Int)), x7, x8]


theorem gs_parQ {σ : L2.St} {H : Hp} {ta : TA} {i j : Nat} {u : TS} {D : Ends} (h : ta σ H fun vs H' => ∃ v z, vs = [v, z] ∧ u D ((σ.set i (some v)).set j (some z)) H') : tSeq (tPar i j ta) u D σ H := h
theorem gs_retQ {σ : L2.St} {H : Hp} {t : TE} {D : Ends} (h : t σ H D.rt) : tRet t D σ H := h
theorem tconsN_at {K : PySem.W.Frag} {t : TE} {tr : TA} {σ : L2.St} {H : Hp} {ds : List PyData} {Q : List V → Hp → Prop} (h : GvN K t σ H ds) (q : ∀ a vs H', Same H H' → H a = none → H' a = some (.lst vs) → DpAll K H' vs ds → tr σ H' fun us H2 => Q (.ref a :: us) H2) : tCons t tr σ H Q := h.at fun a vs H' s n e dv => q a vs H' s n e dv
theorem dpAll_get {K : PySem.W.Frag} {H : Hp} : ∀ {vs : List V} {ds : List PyData} {m : Nat} {v : V}, DpAll K H vs ds → vs[m]? = some v → ∃ d, ds[m]? = some d ∧ Dp K H v d
  | _, _, 0, v, .cons d r, h => by simp at h; subst h; exact ⟨_, rfl, d⟩
  | _, _, m + 1, v, .cons d r, h => by rw [List.getElem?_cons_succ] at h; rw [List.getElem?_cons_succ]; exact dpAll_get r h
  | _, _, m, v, .nil, h => by simp at h
theorem lf_rowsR (l : List (List Int)) : lfAll (l.map dInts) = true := lfAll_of fun d hd => by
  obtain ⟨z, _, rfl⟩ := List.mem_map.mp hd; exact lf_ints _

def nLEff : List Str := ["_law_panel_here", "_law_row_here", "_law_found", "_law_button", "_law_word", "_law_one"]
theorem scLEff : FnScope nLEff ["_law_panel_here", "_law_row_here"] (defScope sLEff) := ⟨rfl, rfl, rfl, by decide +kernel, rfl, by decide +kernel, by decide +kernel⟩
section
variable {P : Program} {w : World} {K : PySem.W.Frag} {mg : Str → Option Value} {base : Heap}
def spLEff (K : PySem.W.Frag) : Sp := spP K (fun x : List (List Int) × List Int => [dPan x.1, dInts x.2]) (fun x => x.1.length ≤ 10 ∧ (∀ y ∈ x.2, 0 ≤ y ∧ y < (x.1.length : Int))) (fun x => dStrs (effM x.1 x.2))
theorem gv_LEff {σ : L2.St} {H : Hp} {t : TA} {E : XK} {pan : List (List Int)} {row : List Int} (h : GvA K t σ H [dPan pan, dInts row]) (hc : pan.length ≤ 10 ∧ (∀ y ∈ row, 0 ≤ y ∧ y < (pan.length : Int))) : Gv K (tCall (spLEff K) [] E t) σ H (dStrs (effM pan row)) := gv_call (K := K) (δ := fun x : List (List Int) × List Int => [dPan x.1, dInts x.2]) (C := fun x => x.1.length ≤ 10 ∧ (∀ y ∈ x.2, 0 ≤ y ∧ y < (x.1.length : Int))) (f := fun x => dStrs (effM x.1 x.2)) (pan, row) h hc
theorem ok_LEff  {f : Addr} {fd : FuncData} {k : Nat} (F : Fun K "_law_effect" "_law_effect" sLEff f fd)
    (m_len : mg "len" = none) (m_range : mg "range" = none) (m_tuple : mg "tuple" = none) : FnOk P w K mg base CX0 (k + 1) f fd ["_law_panel_here", "_law_row_here"] (spLEff K) := by
  refine F.ok scLEff (fun vs H Q E h => ?_) (fun cdv A outer s H vs Q E hr h => ?_)
  · obtain ⟨_, hd, _⟩ := h
    exact hd.length
  · obtain ⟨⟨pan, row⟩, hd, hc, q⟩ := h
    obtain ⟨v1, v2, rfl, d1, d2⟩ := dpAll2 hd
    try dsimp only at hc
    try dsimp only at q
    try dsimp only at d1 d2
    refine ⟨_, pss_cons (ps_set (i := 2) scLEff.nd rfl (.inl rfl) (pe_lst pa_nil))
      (pss_cons (ps_for PassesOwn.never rfl (pi_range1 (by rfl) m_range (pa_cons (pe_callB (show CallR _ _ (rLenG K) from cr_lenG) (by rfl) m_len PySem.boot_len (pa_cons (pv 0) pa_nil)) pa_nil)) (pg_name (i := 3) scLEff.nd rfl (Or.inl rfl)) (pss_cons (ps_set (i := 4) scLEff.nd rfl (.inl rfl) pe_str)
      (pss_cons (ps_for PassesOwn.never rfl (show PI _ _ _ (iTup K _) from pi_tup (pv 1)) (pg_name (i := 5) scLEff.nd rfl (Or.inl rfl)) (pss_one (ps_if (pt_cmpR op_eq (pv 5) (pv 3) (nomark _)) (pss_one (ps_set (i := 4) scLEff.nd rfl (.inl rfl) pe_str)) (pss_one (ps_if (pt_cmpR (show OpR _ _ (rIn K false) from op_in_seq) (pv 3) (pe_ix (show IxR _ (rIxT K) from ix_tup) (pv 0) (pv 5) (fun _ _ => rfl)) (by rfl)) (pss_one (ps_set (i := 4) scLEff.nd rfl (.inl rfl) pe_str)) pss_nil)))))
      (pss_one (ps_expr (show PE _ _ (tBM K "list" rAppend _ _) from pe_bm PySem.F.plainAttrs_list PySem.F.slot_list_append PySem.F.type_list_append mt_append (pv 2) (pa_cons (pv 4) pa_nil)))))))
      (pss_one (ps_ret (pe_callTy (show CallR _ _ (rTupG K) from cr_tupG) (by rfl) m_tuple (by decide +kernel) (pa_cons (pv 2) pa_nil))))), ?_⟩
    obtain ⟨few, hin⟩ := hc
    have hlp : (pan.map dInts).length = pan.length := List.length_map _
    refine gs_setN (K := K) (gn_lst gva_nil) fun F vF H1 s1 nF eF dF => ?_
    cases dF
    refine ((gv_lenT (K := K) (gv_var (i := 0) rfl (d1.sm s1))).to (e := .int (pan.length : Int)) (by rw [hlp])).at fun vn H2 s2 dn => ?_
    cases dn
    have s12 := s1.trans s2
    refine ⟨(pan.length : Int), rfl, by omega, by omega, ?_⟩
    refine for_range (n := pan.length) (fun c σ H5 => Same H H5 ∧ ∃ (x3 x4 x5 : Option V), H5 F = some (.lst ((((List.range c).map fun k : Nat => wordsM pan row (k : Int))).map V.str)) ∧ σ = [some v1, some v2, some (.ref F), x3, x4, x5])
      ⟨s12, none, none, none, s2 _ _ eF, rfl⟩ (fun c σ H5 hc hP => ?_) (fun σ H5 hP => ?_)
    · obtain ⟨s5, x3, x4, x5, eF5, rfl⟩ := hP
      rw [Int.zero_add]
      refine gs_set1 (K := K) (gv_str (x := wSame)) fun vw H6 s6 dw => ?_
      refine gs_seqS (fun σ Hb => Same H6 Hb ∧ ∃ x5, σ = [some v1, some v2, some (.ref F), some (.int (c : Int)), some (.str (wordsM pan row (c : Int))), x5]) ?rest ?loop
      case loop =>
        intro hk
        refine gs_each (K := K) (δ := PyData.int) (as := row) (gvi_tup (gv_var (i := 1) rfl (d2.sm (s5.trans s6)))) (fun Ha k σ Hb => Same Ha Hb ∧ ∃ x5, σ = [some v1, some v2, some (.ref F), some (.int (c : Int)), some (.str (wordsM pan (row.take k) (c : Int))), x5])
          (fun Ha sa => ⟨Same.refl _, _, by cases dw; rfl⟩) (fun Ha k σ Hb sa hP => hP.1) (fun Ha k x v σ Hb Hc sa hx hP sc' dv => ?_) (fun Ha σ Hb sa hP => ?_)
        · obtain ⟨sb, x5', rfl⟩ := hP
          cases dv
          have hrg := hin x (List.mem_of_getElem? hx)
          have sac := (s5.trans s6).trans (sa.trans (sb.trans sc'))
          have ew : wordsM pan (row.take (k + 1)) (c : Int) = if x = (c : Int) then wOn else if (c : Int) ∈ pan.getD x.toNat [] then wOff else wordsM pan (row.take k) (c : Int) := by
            rw [List.take_add_one, hx]; exact words_snoc pan _ x _
          refine gs_if (gvt_test (K := K) (gv_eqI (gv_var (i := 5) rfl (.int x)) (gv_var (i := 3) rfl (.int (c : Int))))) (fun h1 H7 s7 => ?_) (fun h1 H7 s7 => ?_)
          · have h1 : x = (c : Int) := of_decide_eq_true h1
            refine gs_set (K := K) gv_str fun vw2 H8 s8 dw2 => ?_
            cases dw2
            exact ⟨sb.trans (sc'.trans (s7.trans s8)), _, by rw [ew, if_pos h1]; rfl⟩
          · have h1 : ¬ x = (c : Int) := of_decide_eq_false h1
            refine gs_if (gvt_test (K := K) (gv_inT (neg := false) (gv_var (i := 3) rfl (.int (c : Int))) (gv_pan (gv_var (i := 0) rfl ((d1.sm sac).sm s7)) (gv_var (i := 5) rfl (.int x)) hrg.1 hrg.2))) (fun h2 H8 s8 => ?_) (fun h2 H8 s8 => ?_)
            · have h2 : (c : Int) ∈ pan.getD x.toNat [] := by simpa using h2
              refine gs_set (K := K) gv_str fun vw2 H9 s9 dw2 => ?_
              cases dw2
              exact ⟨sb.trans (sc'.trans (s7.trans (s8.trans s9))), _, by rw [ew, if_neg h1, if_pos h2]; rfl⟩
            · have h2 : (c : Int) ∉ pan.getD x.toNat [] := by simpa using h2
              exact ⟨sb.trans (sc'.trans (s7.trans s8)), _, by rw [ew, if_neg h1, if_neg h2]; rfl⟩
        · obtain ⟨sb, x5', rfl⟩ := hP
          rw [List.take_length]
          exact hk _ _ ⟨sa.trans sb, _, rfl⟩
      case rest =>
        rintro σ H7 ⟨s7, x5', rfl⟩
        have eF7 := s7 _ _ (s6 _ _ eF5)
        have nF0 : H F = none := nF
        refine ⟨.ref F, rfl, .inl ⟨rfl, _, .inl (.inl eF7)⟩, .str (wordsM pan row (c : Int)), rfl, F, _, _, rfl, rfl, eF7, by rw [List.length_map, List.length_map, List.length_range]; exact small1000 (by omega), ?_⟩
        refine ⟨fun b o e => ?_, _, _, _, ?_, rfl⟩
        · rw [upd_ne (ne_of_none e nF0)]
          exact s7 _ _ (s6 _ _ (s5 _ _ e))
        · rw [upd_same, List.range_succ, List.map_append, List.map_append]; rfl
    · obtain ⟨s5, x3, x4, x5, eF5, rfl⟩ := hP
      refine gs_ret (K := K) ((gv_tupL (ds := (effM pan row).map PyData.str) (gv_var (i := 2) rfl (.lst (.inl (.inl eF5)) ?_))).to rfl) fun v H6 s6 dv => q v H6 (s5.trans s6) dv
      unfold effM
      generalize (List.range pan.length).map (fun k : Nat => wordsM pan row (k : Int)) = ws
      induction ws with
      | nil => exact .nil
      | cons x r ih => exact .cons (.str x) ih
end
end K14
/-! Resets, as mathematics. -/
namespace Pr
open PySem PySem.Spec PyProof.Rows L2
/-! resets -/
def steM (n : Nat) (st : List Int) : List Str := (List.range n).map fun c : Nat => if (c : Int) ∈ st then wOn else wOff
theorem ste_get {pan : List (List Int)} {goal row : List Int} (e : effM pan row = steM pan.length goal) {c : Nat} (hc : c < pan.length) : wordsM pan row (c : Int) = if (c : Int) ∈ goal then wOn else wOff := by
  have h1 := eff_get (row := row) hc
  rw [e] at h1
  unfold steM at h1
  rw [List.getElem?_map, List.getElem?_range hc] at h1
  exact (Option.some.inj h1).symm
theorem reset_run {pan : List (List Int)} {goal row st : List Int} (hg : Asc pan.length goal) (hst : Asc pan.length st) (e : effM pan row = steM pan.length goal) : runM pan st row = goal := by
  refine asc_ext (runM_asc hst).up hg.up fun x => ?_
  by_cases hx : 0 ≤ x ∧ x < (pan.length : Int)
  · obtain ⟨c, rfl⟩ : ∃ c : Nat, x = (c : Int) := ⟨x.toNat, (Int.toNat_of_nonneg hx.1).symm⟩
    rw [memRun hx.1 hx.2, ste_get e (by omega)]
    by_cases h : (c : Int) ∈ goal
    · simp [h]
    · rw [if_neg h]
      refine ⟨fun z => z.elim (fun z => absurd z (by decide)) (fun z => absurd z.1 (by decide)), fun z => absurd z h⟩
  · exact ⟨fun z => absurd ((runM_asc hst).rng x z) hx, fun z => absurd (hg.rng x z) hx⟩
theorem ste_nosame {n : Nat} {st : List Int} : wSame ∉ steM n st := by
  unfold steM
  intro h
  obtain ⟨c, _, e⟩ := List.mem_map.mp h
  split at e
  · exact absurd e (by decide)
  · exact absurd e (by decide)
theorem asc_intL (n : Nat) : Asc n (intL n) := by
  have := Asc.filter n (fun _ => true)
  rwa [List.filter_eq_self.mpr fun _ _ => rfl] at this
theorem press_self {pan : List (List Int)} (g : Good pan) {goal hs : List Int} (hh : IsHeld pan goal hs) : ∀ {row st : List Int}, Asc pan.length st → (∀ b ∈ row, InP pan b) → runM pan st row = goal → ∀ x ∈ hs, x ∈ st := by
  intro row
  induction row with
  | nil => intro st _ _ e x hx; rw [show st = goal from e]; exact hh.sub x hx
  | cons a r ih =>
    intro st hst hin e x hx
    rw [runM_cons] at e
    have ha := hin a List.mem_cons_self
    have h1 := ih (pressM_asc _ _ _) (fun b hb => hin b (List.mem_cons_of_mem _ hb)) e
    have selfN : a ∉ relM pan a := by
      have hl : a.toNat < pan.length := by have := ha; unfold InP at this; omega
      have := g.own a.toNat pan[a.toNat] (List.getElem?_eq_getElem hl)
      unfold relM
      rw [List.getD_eq_getElem?_getD, List.getElem?_eq_getElem hl]
      rw [Int.toNat_of_nonneg ha.1] at this
      exact this
    have free : ∀ y ∈ relM pan a, y ∉ hs := fun y hy hys => by
      rcases (mem_pressM.mp (h1 y hys)).2 with rfl | ⟨_, h2⟩
      · exact selfN hy
      · exact h2 hy
    have an : a ∉ hs := fun z => by
      obtain ⟨c, c1, c2⟩ := hh.closed a z
      exact free c c1 c2
    rcases (mem_pressM.mp (h1 x hx)).2 with rfl | ⟨h2, _⟩
    · exact absurd hx an
    · exact h2
/-- a row leads to the goal from every state exactly if the goal is reached from all buttons and nothing is held in it -/
theorem reset_iff {pan : List (List Int)} (g : Good pan) {goal hs G : List Int} (hg : Asc pan.length goal) (hh : IsHeld pan goal hs) (hG : IsGath pan goal hs G) : (∃ row : List Int, (∀ b ∈ row, InP pan b) ∧ effM pan row = steM pan.length goal) ↔ (goal ∈ reachM pan (intL pan.length) ∧ hs = []) := by
  constructor
  · rintro ⟨row, hin, e⟩
    refine ⟨(reach_iff g.few (asc_intL _)).mpr ⟨row, hin, reset_run hg (asc_intL _) e⟩, ?_⟩
    have := press_self g hh (Asc.nil _) hin (reset_run hg (Asc.nil _) e)
    cases hs with
    | nil => rfl
    | cons x _ => exact absurd (this x List.mem_cons_self) (by simp)
  · rintro ⟨h, rfl⟩
    have can := (reach_can g (asc_intL _) hg hh hG).mp h
    obtain ⟨row, hin, e⟩ := tow_some g hh hG hg
    refine ⟨row, hin, e.trans ?_⟩
    unfold towM steM
    refine List.map_congr_left fun c hc => ?_
    have hc := List.mem_range.mp hc
    by_cases h1 : (c : Int) ∈ goal
    · rw [if_pos h1, if_pos ⟨h1, by simp⟩]
    · rw [if_neg h1, if_neg fun z => h1 z.1]
      rcases can.2 (c : Int) (mem_intL.mpr ⟨by omega, by omega⟩) with h | h
      · exact absurd h h1
      · rw [if_pos h]
end Pr
namespace K14
open PySem PySem.Spec PyProof.Rows L2 Pr
def nDec : List Str := ["_law_panel_here", "_law_effect_here", "_law_decided_here", "_law_button", "_law_one"]
theorem scDec : FnScope nDec ["_law_panel_here", "_law_effect_here", "_law_decided_here", "_law_button"] (defScope sDec) := ⟨rfl, rfl, rfl, by decide +kernel, rfl, by decide +kernel, by decide +kernel⟩
section
variable {P : Program} {w : World} {K : PySem.W.Frag} {mg : Str → Option Value} {base : Heap}
def spDec (K : PySem.W.Frag) : Sp := fun vs H Q _ => ∃ (v1 v2 v3 : V) (pan : List (List Int)) (e : List Str) (S : List Int) (b : Nat), vs = [v1, v2, v3, .int (b : Int)] ∧ Dp K H v1 (dPan pan) ∧ Dp K H v2 (dStrs e) ∧ Dp K H v3 (dInts S) ∧ Good pan ∧ e.length = pan.length ∧ S.length ≤ 10 ∧ (∀ c ∈ S, 0 ≤ c ∧ c < (pan.length : Int)) ∧ b < pan.length ∧
  (decF pan e S (b : Int) = none → ∀ H', Same H H' → Q .non H') ∧ ∀ S', decF pan e S (b : Int) = some S' → ∀ (a : Addr) (H' : Hp), Same H H' → H a = none → H' a = some (.tup (S'.map V.int)) → Q (.ref a) H'
theorem ok_Dec  {f : Addr} {fd : FuncData} {k : Nat} (F : Fun K "_law_decided" "_law_decided" sDec f fd)
    (m_set : mg "set" = none) (m_sorted : mg "sorted" = none) (m_tuple : mg "tuple" = none) : FnOk P w K mg base CX0 (k + 1) f fd ["_law_panel_here", "_law_effect_here", "_law_decided_here", "_law_button"] (spDec K) := by
  refine F.ok scDec (fun vs H Q E h => ?_) (fun cdv A outer s H vs Q E hr h => ?_)
  · obtain ⟨v1, v2, v3, pan, e, S, b, rfl, _⟩ := h
    rfl
  · obtain ⟨v1, v2, v3, pan, e, S, b, rfl, d1, d2, d3, hg, he, hS, hSr, hb, q1, q2⟩ := h
    refine ⟨_, pss_cons (ps_if (PW.pt (pw_and (pt_cmpR (show OpR _ _ (rIn K true) from op_notIn_seq) (pv 3) (pv 2) (by rfl)) (pw_and1 (pt_cmpR op_ne (pe_ix (show IxR _ (rIxT K) from ix_tup) (pv 1) (pv 3) (fun _ _ => rfl)) pe_str (nomark _))))) (pss_one (ps_ret pe_non)) pss_nil)
      (pss_cons (ps_if (pt_cmpR (show OpR _ _ (rNeD K) from op_neD hr.units) (pe_lc (own := [("_law_one", 4)]) (g := gName 4) rfl scDec.nd (show PI _ _ _ (iTup K _) from pi_tup (pe_ix (show IxR _ (rIxT K) from ix_tup) (pv 0) (pv 3) (fun _ _ => rfl))) (blkOk_by (own := [("_law_one", 4)]) (N := nDec) (sc := defScope sDec) (by decide +kernel)) (fun _ _ _ _ _ => pg_name (i := 4) scDec.nd rfl (Or.inl rfl)) (fun _ _ _ _ _ => pts_one (PW.pt (pw_and (pt_cmpR (show OpR _ _ (rIn K true) from op_notIn_seq) (pv 4) (pv 2) (by rfl)) (pw_and1 (pt_cmpR op_ne (pe_ix (show IxR _ (rIxT K) from ix_tup) (pv 1) (pv 4) (fun _ _ => rfl)) pe_str (nomark _)))))) (fun _ _ _ _ _ => pv 4)) (pe_lst pa_nil) (nomark _)) (pss_one (ps_ret pe_non)) pss_nil)
      (pss_one (ps_ret (pe_callTy (show CallR _ _ (rTupG K) from cr_tupG) (by rfl) m_tuple (by decide +kernel) (pa_cons (pe_callB (show CallR _ _ (rSortedSet w) from cr_sortedSet rfl) (by rfl) m_sorted (by decide +kernel) (pa_cons (pe_callTy (show CallR _ _ (rSetT' K w) from cr_setT rfl) (by rfl) m_set (by decide +kernel) (pa_cons (pe_op (show OpR _ _ (rCatS K) from op_catS) (pe_op (show OpR _ _ (rCatS K) from op_catS) (pv 2) (pe_tup (pa_cons (pv 3) pa_nil))) (pe_ix (show IxR _ (rIxT K) from ix_tup) (pv 0) (pv 3) (fun _ _ => rfl))) pa_nil)) pa_nil)) pa_nil))))), ?_⟩
    have few := hg.few
    have ee : (e.map PyData.str)[b]? = some (PyData.str (eAt e (b : Int))) := by rw [List.getElem?_map, eAt_get he hb]; rfl
    have rel : ∀ c ∈ pan.getD ((b : Int)).toNat [], 0 ≤ c ∧ c < (pan.length : Int) := fun c hc => by
      rw [Int.toNat_natCast, List.getD_eq_getElem?_getD, List.getElem?_eq_getElem hb] at hc
      exact hg.rng _ (List.getElem_mem hb) c hc
    have rlen : (pan.getD ((b : Int)).toNat []).length ≤ 10 := by
      rw [Int.toNat_natCast, List.getD_eq_getElem?_getD, List.getElem?_eq_getElem hb]
      have h1 := pw_length (n := pan.length) (lo := 0) (hg.up _ (List.getElem_mem hb)) fun y hy => by have := hg.rng _ (List.getElem_mem hb) y hy; omega
      show pan[b].length ≤ 10
      omega
    have ec : ∀ c ∈ pan.getD ((b : Int)).toNat [], c = ((c.toNat : Nat) : Int) ∧ (e.map PyData.str)[c.toNat]? = some (PyData.str (eAt e c)) := fun c hc => by
      have hr := rel c hc
      have e1 : c = ((c.toNat : Nat) : Int) := (Int.toNat_of_nonneg hr.1).symm
      refine ⟨e1, ?_⟩
      rw [List.getElem?_map, eAt_get he (show c.toNat < pan.length by omega), ← e1]; rfl
    refine gs_if1 (gvt_and (gvt_test (K := K) (gv_inT (neg := true) (gv_var (i := 3) rfl (.int (b : Int))) (gv_var (i := 2) rfl d3))) (fun Hy sy _ => gvt_test (gv_neS (gv_ixT (j := b) (gv_var (i := 1) rfl (d2.sm sy)) (gv_var (i := 3) rfl (.int (b : Int))) rfl ee) gv_str))) (fun h H1 s1 => ?_) (fun h H1 s1 => ?_)
    · have hd : decF pan e S (b : Int) = none := by
        unfold decF
        exact if_pos (by simpa using h)
      refine gs_ret (K := K) gv_non fun v H2 s2 dv => ?_
      cases dv
      exact q1 hd H2 (s1.trans s2)
    have n1 : ¬ ((b : Int) ∉ S ∧ eAt e (b : Int) ≠ wOn) := fun z => by
      simp [z.1] at h
      exact z.2 h
    refine gs_if1 (gvt_test (K := K) (gv_neD ((gn_lc (K := K) (δ := PyData.int) (as := pan.getD ((b : Int)).toNat []) (p := fun c => !decide (c ∈ S) && !decide (eAt e c = wOff)) (f := PyData.int) (gvi_tup (gv_pan (gv_var (i := 0) rfl (d1.sm s1)) (gv_var (i := 3) rfl (.int (b : Int))) (by omega) (by omega))) (fun c vc Hc hc sc dc => ⟨gvt_and (gvt_test (gv_inT (neg := true) (gv_var (i := 4) rfl dc) (gv_var (i := 2) rfl ((d3.sm s1).sm sc)))) (fun Hy sy _ => gvt_test (gv_neS (gv_ixT (j := c.toNat) (gv_var (i := 1) rfl (((d2.sm s1).sm sc).sm sy)) (gv_var (i := 4) rfl (dc.sm sy)) (ec c hc).1 (ec c hc).2) gv_str)), fun _ => gv_var (i := 4) rfl dc⟩) (fun _ _ => rfl) (by omega)).gv) (gv_lst gva_nil) (shaped_ints _) (by rfl))) (fun h2 H2 s2 => ?_) (fun h2 H2 s2 => ?_)
    · have hx : ∃ c ∈ pan.getD ((b : Int)).toNat [], c ∉ S ∧ eAt e c ≠ wOff := by
        refine Classical.byContradiction fun z => ?_
        have : (pan.getD ((b : Int)).toNat []).filter (fun c => !decide (c ∈ S) && !decide (eAt e c = wOff)) = [] := List.filter_eq_nil_iff.mpr fun c hc y => z ⟨c, hc, by simpa using y⟩
        rw [this] at h2
        exact absurd h2 (by decide)
      have hd : decF pan e S (b : Int) = none := by
        unfold decF
        rw [if_neg n1, if_pos hx]
      refine gs_ret (K := K) gv_non fun v H3 s3 dv => ?_
      cases dv
      exact q1 hd H3 (s1.trans (s2.trans s3))
    have n2 : ¬ ∃ c ∈ pan.getD ((b : Int)).toNat [], c ∉ S ∧ eAt e c ≠ wOff := by
      rintro ⟨c, hc, y⟩
      have hm : c ∈ (pan.getD ((b : Int)).toNat []).filter (fun c => !decide (c ∈ S) && !decide (eAt e c = wOff)) := List.mem_filter.mpr ⟨hc, by simpa using y⟩
      simp only [PyData.eqv] at h2
      have h3 := eqv_intsL ((pan.getD ((b : Int)).toNat []).filter (fun c => !decide (c ∈ S) && !decide (eAt e c = wOff))) []
      rw [show ([] : List Int).map PyData.int = [] from rfl] at h3
      rw [h3] at h2
      have h4 : (pan.getD ((b : Int)).toNat []).filter (fun c => !decide (c ∈ S) && !decide (eAt e c = wOff)) = [] := by simpa using h2
      rw [h4] at hm
      cases hm
    have hd : decF pan e S (b : Int) = some ((intL pan.length).filter fun c => decide (c ∈ S ∨ c = (b : Int) ∨ c ∈ pan.getD ((b : Int)).toNat [])) := by
      unfold decF
      rw [if_neg n1, if_neg n2]
    have s12 := s1.trans s2
    refine (gv_cat1 (K := K) (l := S ++ [(b : Int)]) (m := pan.getD ((b : Int)).toNat []) (gv_cat1 (l := S) (m := [(b : Int)]) (gv_var (i := 2) rfl (d3.sm s12)) (gv_tup (gva_cons (gv_var (i := 3) rfl (.int (b : Int))) gva_nil) (by show 1 ≤ sizeLine; decide)) (by show S.length + 1 ≤ 100000; omega)) (gv_pan (gv_var (i := 0) rfl (d1.sm s12)) (gv_var (i := 3) rfl (.int (b : Int))) (by omega) (by omega)) (by rw [List.length_append]; show S.length + 1 + _ ≤ 100000; omega)).at fun vc H3 s3 dc => ?_
    obtain ⟨a, rfl, ha⟩ := dc.intsI
    refine ⟨a, _, rfl, ha, by rw [List.length_append, List.length_append]; show S.length + 1 + _ ≤ 1000; omega, fun z n ks nz nd mem len => ?_⟩
    have hn : n < 64 := by
      rw [← len]
      have := nodup_few pan.length ks nd fun x hx => by
        have hx := (mem x).mp hx
        rw [List.mem_append, List.mem_append, List.mem_singleton] at hx
        rcases hx with (hx | hx) | hx
        · exact hSr x hx
        · rw [hx]; omega
        · exact rel x hx
      omega
    refine ⟨z, _, n, rfl, upd_same, hn, fun ns p up2 m2 l2 np => ?_⟩
    refine ⟨p, _, rfl, .inl ⟨.inl (.inl upd_same), fun T nT => ?_⟩⟩
    have en : ns = (intL pan.length).filter fun c => decide (c ∈ S ∨ c = (b : Int) ∨ c ∈ pan.getD ((b : Int)).toNat []) := by
      refine asc_ext up2 ((asc_intL _).up.filter _) fun x => ?_
      rw [m2 x, decide_eq_true_eq, List.mem_filter, decide_eq_true_eq, List.mem_append, List.mem_append, List.mem_singleton, mem_intL]
      constructor
      · rintro ((hx | hx) | hx)
        · exact ⟨hSr x hx, .inl hx⟩
        · exact ⟨by omega, .inr (.inl hx)⟩
        · exact ⟨rel x hx, .inr (.inr hx)⟩
      · rintro ⟨_, hx | hx | hx⟩
        · exact .inl (.inl hx)
        · exact .inl (.inr hx)
        · exact .inr hx
    have sz := (s12.trans s3).trans ((same_new nz).trans (same_new (o := HO.lst (ns.map V.int)) np))
    refine q2 _ hd T _ (sz.trans (same_new nT)) (sz.free nT) ?_
    rw [upd_same, en]
end
end K14
/-! sorted(list of tuples of words), sorted(dict keyed by tuples of words). -/
namespace Pr
open PySem PySem.Spec PyProof.Rows L2 PySem.W
def IsW (x : Str) : Prop := x = wSame ∨ x = wOn ∨ x = wOff
def codeW (x : Str) : Int := if x = wOff then 0 else if x = wOn then 1 else 2
theorem codeW_inj {x y : Str} (hx : IsW x) (hy : IsW y) (e : codeW x = codeW y) : x = y := by
  rcases hx with rfl | rfl | rfl <;> rcases hy with rfl | rfl | rfl <;> first | rfl | (exfalso; revert e; decide)
theorem lt_word {x y : Str} (hx : IsW x) (hy : IsW y) : dataLt (.str x) (.str y) = decide (codeW x < codeW y) := by
  rw [dataLt_str]
  rcases hx with rfl | rfl | rfl <;> rcases hy with rfl | rfl | rfl <;> decide
theorem eqv_str (x y : Str) : PyData.eqv (.str x) (.str y) = decide (x = y) := by
  simp only [PyData.eqv]
  by_cases e : x = y
  · subst e; simp
  · simp [e]
theorem lt_words : ∀ {xs ys : List Str}, xs.length = ys.length → (∀ x ∈ xs, IsW x) → (∀ y ∈ ys, IsW y) → rowLt (xs.map .str) (ys.map .str) = HT.lexLt (xs.map codeW) (ys.map codeW)
  | [], [], _, _, _ => by
    have e : rowLt [] [] = false := lex_irrefl _
    simp [e, HT.lexLt]
  | [], _ :: _, h, _, _ => by cases h
  | _ :: _, [], h, _, _ => by cases h
  | x :: xs, y :: ys, hl, hx, hy => by
    have ih := lt_words (xs := xs) (ys := ys) (by simpa using hl) (fun z hz => hx z (List.mem_cons_of_mem _ hz)) (fun z hz => hy z (List.mem_cons_of_mem _ hz))
    have wx := hx x List.mem_cons_self
    have wy := hy y List.mem_cons_self
    rw [List.map_cons, List.map_cons, List.map_cons, List.map_cons, HT.lexLt_cons]
    unfold rowLt at ih ⊢
    rw [dataLt_cons (x := .str x) (y := .str y) (by simp [alike]), ih, eqv_str, lt_word wx wy]
    by_cases e : x = y
    · subst e; simp
    · have e2 : codeW x ≠ codeW y := fun z => e (codeW_inj wx wy z)
      simp [e, e2]
abbrev wLt (a b : List Str) : Bool := HT.lexLt (a.map codeW) (b.map codeW)
/-- the ascending one of the same effects -/
def srtW (ks : List (List Str)) : List (List Str) := ks.mergeSort fun a b => !wLt b a
theorem srtW_perm (ks : List (List Str)) : (srtW ks).Perm ks := List.mergeSort_perm _ _
theorem map_code_inj : ∀ {a b : List Str}, (∀ x ∈ a, IsW x) → (∀ x ∈ b, IsW x) → a.map codeW = b.map codeW → a = b
  | [], [], _, _, _ => rfl
  | [], _ :: _, _, _, h => by simp at h
  | _ :: _, [], _, _, h => by simp at h
  | x :: a, y :: b, ha, hb, h => by
    rw [List.map_cons, List.map_cons] at h
    obtain ⟨e1, e2⟩ := List.cons.inj h
    rw [codeW_inj (ha x List.mem_cons_self) (hb y List.mem_cons_self) e1, map_code_inj (fun z hz => ha z (List.mem_cons_of_mem _ hz)) (fun z hz => hb z (List.mem_cons_of_mem _ hz)) e2]
theorem permW_eq : ∀ {l1 l2 : List (List Str)}, (∀ k ∈ l1, ∀ x ∈ k, IsW x) → l1.Perm l2 → l1.Pairwise (fun a b => wLt b a = false) → l2.Pairwise (fun a b => wLt b a = false) → l1 = l2 := by
  intro l1
  induction l1 with
  | nil => intro l2 _ h _ _; exact (List.nil_perm.mp h).symm
  | cons x r ih =>
    intro l2 hw h h1 h2
    cases l2 with
    | nil => exact absurd h.symm (by simp)
    | cons y s =>
      rw [List.pairwise_cons] at h1 h2
      have wy : ∀ z ∈ y, IsW z := hw y (h.symm.subset List.mem_cons_self)
      have hxy : x = y := by
        have hx : x ∈ y :: s := h.subset List.mem_cons_self
        have hy : y ∈ x :: r := h.symm.subset List.mem_cons_self
        rcases List.mem_cons.mp hx with e | e
        · exact e
        · rcases List.mem_cons.mp hy with e' | e'
          · exact e'.symm
          · exact map_code_inj (hw x List.mem_cons_self) wy (lex_anti (h1.1 y e') (h2.1 x e))
      subst hxy
      rw [ih (fun k hk => hw k (List.mem_cons_of_mem _ hk)) (List.Perm.cons_inv h) h1.2 h2.2]
theorem srtW_up (ks : List (List Str)) : (srtW ks).Pairwise fun a b => wLt b a = false := by
  have := List.pairwise_mergeSort (le := fun a b : List Str => !wLt b a) (fun a b c h1 h2 => by simp at *; exact lex_trans h1 h2) (fun a b => by
    rcases lex_total (a.map codeW) (b.map codeW) with h | h <;> simp [h]) ks
  exact this.imp fun h => by simpa using h
theorem srtW_congr {l1 l2 : List (List Str)} (hw : ∀ k ∈ l1, ∀ x ∈ k, IsW x) (h : l1.Perm l2) : srtW l1 = srtW l2 :=
  permW_eq (fun k hk => hw k ((srtW_perm l1).subset hk)) ((srtW_perm l1).trans (h.trans (srtW_perm l2).symm)) (srtW_up _) (srtW_up _)
section
variable {X : Cx} {pins : List (Addr × Obj)} {s : Shared} {σ : L2.St} {H : Hp}
theorem reads_strs {h : Heap} : ∀ {xs : List Str} {us : List Value}, Vals (xs.map V.str) us → ReadsAll h us (xs.map PyData.str) []
  | [], _, .nil => .nil
  | x :: xs, _, .cons rx rr => by
    obtain ⟨t, rfl⟩ := rx
    exact .cons (.str x t) (reads_strs rr)
theorem reads_ts {a : Addr} {xs : List Str} (I : Inv X pins σ H s) (h : SqT X.K H a (xs.map V.str)) : Reads s.heap (.ref a) (.tuple (xs.map PyData.str)) [] := by
  obtain ⟨its, rv, ⟨o, ho, hc, n, hd⟩, _⟩ := I.tuple h
  exact .tuple ho hc hd (reads_strs rv)
/-- what the tuples are: all of one length, not empty, of words -/
structure WT (K : PySem.W.Frag) (H : Hp) (n : Nat) (ts : List (Addr × List Str)) : Prop where
  sq : ∀ p ∈ ts, SqT K H p.1 (p.2.map V.str)
  len : ∀ p ∈ ts, p.2.length = n
  w : ∀ p ∈ ts, ∀ x ∈ p.2, IsW x
abbrev encW (q : Addr × List Str) : PyData := .tuple (q.2.map PyData.str)
theorem leW {n : Nat} {ts : List (Addr × List Str)} (W : WT X.K H n ts) {p q : Addr × List Str} (hp : p ∈ ts) (hq : q ∈ ts) : dataLe false encW p q = !wLt q.2 p.2 := by
  show (!dataLt (.tuple (q.2.map .str)) (.tuple (p.2.map .str))) = _
  rw [dataLt_tuple]
  show (!rowLt (q.2.map .str) (p.2.map .str)) = _
  rw [lt_words (by rw [W.len q hq, W.len p hp]) (W.w q hq) (W.w p hp)]
theorem mergeW {n : Nat} {ts : List (Addr × List Str)} (W : WT X.K H n ts) : (ts.mergeSort (dataLe false encW)).Perm ts ∧ (ts.mergeSort (dataLe false encW)).Pairwise fun p q => wLt q.2 p.2 = false := by
  have hp : (ts.mergeSort (dataLe false encW)).Perm ts := List.mergeSort_perm _ _
  have he : ts.mergeSort (dataLe false encW) = ts.mergeSort fun p q => !wLt q.2 p.2 := by
    have := List.map_mergeSort (r := dataLe false encW) (s := fun p q : Addr × List Str => !wLt q.2 p.2) (f := id) (l := ts) fun a ha b hb => leW W ha hb
    rwa [List.map_id, List.map_id] at this
  refine ⟨hp, ?_⟩
  rw [he]
  have := List.pairwise_mergeSort (le := fun p q : Addr × List Str => !wLt q.2 p.2) (fun a b c h1 h2 => by simp at *; exact lex_trans h1 h2) (fun a b => by rcases lex_total (a.2.map codeW) (b.2.map codeW) with h | h <;> simp [h]) ts
  exact this.imp fun h => by simpa using h

theorem eachs_of {R : Value → Addr × List Str → Prop} : ∀ (l : List (Addr × List Str)), (∀ q ∈ l, R (.ref q.1) q) → EachIs R (l.map fun q => Value.ref q.1) l
  | [], _ => .nil
  | q :: l, h => .cons (h q List.mem_cons_self) (eachs_of l fun r hr => h r (List.mem_cons_of_mem _ hr))
theorem eachs_eq : ∀ {out : List Value} {l : List (Addr × List Str)}, EachIs (fun v q => v = Value.ref q.1) out l → out = l.map fun q => Value.ref q.1
  | _, _, .nil => rfl
  | _, _, .cons e t => by rw [e, eachs_eq t]; rfl
theorem refs_vals (l : List (Addr × List Str)) : Vals (l.map fun q => V.ref q.1) (l.map fun q => Value.ref q.1) := by
  induction l with
  | nil => exact .nil
  | cons q l ih => exact .cons rfl ih
theorem vals_refs' : ∀ {l : List (Addr × List Str)} {us : List Value}, Vals (l.map fun q => V.ref q.1) us → us = l.map fun q => Value.ref q.1
  | [], _, .nil => rfl
  | q :: l, _, .cons rx rr => by rw [vals_refs' rr]; cases rx; rfl
def rSortTW (K : PySem.W.Frag) : List V → Hp → VK → Prop := fun vs H Q => ∃ (a : Addr) (ts : List (Addr × List Str)) (n : Nat), vs = [V.ref a] ∧ SqL K H a (ts.map fun q => V.ref q.1) ∧ WT K H n ts ∧ 0 < n ∧
  ∀ (ts' : List (Addr × List Str)) (p : Addr), ts'.Perm ts → ts'.Pairwise (fun p q => wLt q.2 p.2 = false) → H p = none → Q (.ref p) (upd H p (.lst (ts'.map fun q => V.ref q.1)))
theorem hal_W (l : List (Addr × List Str)) : AllAlike (l.map encW) := fun d hd d' hd' => by
  obtain ⟨t, _, rfl⟩ := List.mem_map.mp hd
  obtain ⟨t', _, rfl⟩ := List.mem_map.mp hd'
  have key : ∀ xs ys : List Str, alikeAll (xs.map PyData.str) (ys.map PyData.str) = true := fun xs => by
    induction xs with
    | nil => intro ys; simp [alikeAll]
    | cons x xs ih => intro ys; cases ys with
      | nil => simp [alikeAll]
      | cons y ys => simp [alikeAll, alike, ih ys]
  show alike (.tuple _) (.tuple _) = true
  simp only [alike]
  exact key _ _
theorem hk_W {n : Nat} {l : List (Addr × List Str)} (W : WT X.K H n l) (hn : 0 < n) : Sortable (l.map encW) := .inl fun d hd => by
  obtain ⟨t, ht, rfl⟩ := List.mem_map.mp hd
  have := W.len t ht
  cases e : t.2 with
  | nil => rw [e] at this; simp at this; omega
  | cons x r => exact ⟨.str x, r.map PyData.str, by show encW t = _; unfold encW; rw [e]; rfl⟩
theorem depth_W (xs : List Str) : (PyData.tuple (xs.map PyData.str)).depth = 1 := by
  have key : ∀ xs : List Str, PyData.depthAll (xs.map PyData.str) = 0 := fun xs => by
    induction xs with
    | nil => rfl
    | cons x xs ih => simp [PyData.depthAll, PyData.depth, ih]
  simp only [PyData.depth, key]
theorem cr_sortTW (hu : X.A.units + 64 < cLine) : CallR X (.builtin "sorted") (rSortTW X.K) := by
  intro pins s σ H vs us Q I r h
  obtain ⟨a, ts, n, rfl, hs, W, hn, q⟩ := h
  obtain ⟨its, rv, hl, hz⟩ := I.list hs
  rw [Vals.ref1 r]
  have ei := vals_refs' rv
  have e1 : EachIs (fun v (q : Addr × List Str) => v = Value.ref q.1) its ts := by rw [ei]; exact eachs_of ts fun _ _ => rfl
  have er : EachIs (fun v (q : Addr × List Str) => ∃ as, Reads s.heap v (encW q) as) its ts := by rw [ei]; exact eachs_of ts fun q hq => ⟨[], reads_ts I (W.sq q hq)⟩
  refine sorted_data (enc := encW) hl.isList e1 er (hal_W ts) (hk_W W hn) (by rw [List.length_map] at hz; exact hz) (fun b hb => ?_) fun out ol oe => ?_
  · show X.A.units + 2 + (PyData.tuple (b.2.map PyData.str)).depth < cLine
    rw [depth_W]; omega
  · obtain ⟨m1, m2⟩ := mergeW W
    have eo := eachs_eq oe
    generalize ts.mergeSort (dataLe false encW) = ts' at m1 m2 eo
    have hl2 : (ts'.map fun q => V.ref q.1).length ≤ sizeLine := by
      rw [List.length_map, m1.length_eq]; rw [List.length_map] at hz; exact hz
    obtain ⟨c, hc⟩ := sortedAll_at s.heap its out.toArray
    exact ⟨.ref (s.heap.objs.size + 1), upd H _ (.lst (ts'.map fun q => V.ref q.1)), I.laid (t' := s.toks) (fun b o e => sortedAll_old e) (Nat.le_succ _) ⟨hl2, out, c, by rw [eo]; exact refs_vals ts', hc⟩, rfl, q _ _ m1 m2 (I.hok.fresh (Nat.le_succ _))⟩
def rSortDW (K : PySem.W.Frag) : List V → Hp → VK → Prop := fun vs H Q => ∃ (d : Addr) (kvs : List (List Key × V)) (n : Nat) (ks : List (List Str)), vs = [V.ref d] ∧ Rd H d (.dT kvs) ∧ kvs.map (·.1) = ks.map kStr ∧ (∀ k ∈ ks, k.length = n ∧ ∀ x ∈ k, IsW x) ∧ 0 < n ∧
  ∀ (ts' : List (Addr × List Str)) (p : Addr), (ts'.map (·.2)).Perm ks → ts'.Pairwise (fun p q => wLt q.2 p.2 = false) → (∀ q ∈ ts', H q.1 = some (.tup (q.2.map V.str))) → H p = none → Q (.ref p) (upd H p (.lst (ts'.map fun q => V.ref q.1)))
theorem cr_sortDW (hcalm : X.calm = true) (hu : X.A.units + 64 < cLine) : CallR X (.builtin "sorted") (rSortDW X.K) := by
  intro pins s σ H xs us Q I r h
  obtain ⟨d, kvs, n, ks, rfl, hd, hks, hk, hn, q⟩ := h
  rw [Vals.ref1 r]
  obtain ⟨z, hs, kx, pr, o, es, ep, ho, hx, hdt, he, hnn⟩ := (show ObjOk X.prog X.w H s.heap d (.dT kvs) from hd.ok I.hok)
  have l1 : es.size = kx.length := size_of_entries he
  have l2 : kvs.length = kx.length := Paired.length pr
  have hkeys := isKeys_of pr
  -- the tuples of the keys
  obtain ⟨ts, ht1, ht2, ht3⟩ : ∃ ts : List (Addr × List Str), ts.map (·.1) = (kx.map fun x => x.2.1) ∧ ts.map (·.2) = ks ∧ ∀ q ∈ ts, H q.1 = some (.tup (q.2.map V.str)) := by
    have key : ∀ (kvs : List (List Key × V)) (bs : List Addr) (ks : List (List Str)), IsKeys H kvs bs → kvs.map (·.1) = ks.map kStr → ∃ ts : List (Addr × List Str), ts.map (·.1) = bs ∧ ts.map (·.2) = ks ∧ ∀ q ∈ ts, H q.1 = some (.tup (q.2.map V.str)) := fun kvs => by
      induction kvs with
      | nil =>
        intro bs ks h e
        cases ks with
        | nil => cases h; exact ⟨[], rfl, rfl, fun _ h => by cases h⟩
        | cons _ _ => simp at e
      | cons x kvs ih =>
        intro bs ks h e
        cases ks with
        | nil => simp at e
        | cons k ks =>
          rw [List.map_cons, List.map_cons] at e
          obtain ⟨e1, e2⟩ := List.cons.inj e
          cases h with
          | cons hb hr =>
            rename_i b bs'
            obtain ⟨ts, a1, a2, a3⟩ := ih _ ks hr e2
            refine ⟨(b, k) :: ts, by rw [List.map_cons, a1], by rw [List.map_cons, a2], fun q hq => ?_⟩
            rcases List.mem_cons.mp hq with rfl | hq
            · dsimp only at hb ⊢
              rw [hb, e1, kStr_kV]
            · exact a3 q hq
    exact key kvs _ ks hkeys hks
  have W : WT X.K H n ts := ⟨fun p hp => .inl (.inl (ht3 p hp)), fun p hp => (hk p.2 (by rw [← ht2]; exact List.mem_map.mpr ⟨p, hp, rfl⟩)).1, fun p hp => (hk p.2 (by rw [← ht2]; exact List.mem_map.mpr ⟨p, hp, rfl⟩)).2⟩
  have tl : ts.length = kx.length := by have := congrArg List.length ht1; rwa [List.length_map, List.length_map] at this
  refine Calls.call_function_entry kind_sorted plain_sorted entry_sorted (args_sorted1 _) ?_
  unfold Builtin.«sorted»
  refine wpAny_bind (m := checkCount "sorted" 1 1 _) (wpAny_pure ?_)
  refine wpAny_bind (kdu_collect (A := X.A.in1) (kdl_raw hs hx hdt) (I.ok.hd hcalm) ho (by omega) fun h' tk acc kp it => ?_)
  have ea : acc.toList = ts.map fun q => Value.ref q.1 := by
    have e0 : (ts.map fun q => Value.ref q.1) = kx.map fun x => Value.ref x.2.1 := by
      have := congrArg (List.map Value.ref) ht1
      rwa [List.map_map, List.map_map] at this
    rw [e0]
    have hl : acc.toList.length = kx.length := by rw [Array.length_toList, it.1]; exact l1
    refine List.ext_getElem? fun j => ?_
    rw [List.getElem?_map]
    cases hj : acc.toList[j]? with
    | none =>
      have h1 := List.getElem?_eq_none_iff.mp hj
      rw [List.getElem?_eq_none (by omega)]; rfl
    | some v =>
      obtain ⟨en, hen, hv⟩ := it.2 j v (by rw [← Array.getElem?_toList]; exact hj)
      have qe := entry_at he j
      rw [hen] at qe
      cases hb : kx[j]? with
      | none => rw [hb] at qe; exact nomatch (show some en = none from qe)
      | some b =>
        rw [hb] at qe
        rw [hv, show en = entryOfKey (tupleKind (mixKind X.prog X.w)) b from Option.some.inj qe]; rfl
  have I1 : Inv X pins σ H { s with heap := h', toks := tk } := I.kept kp
  have hsz : acc.toList.length ≤ sizeLine := by rw [ea, List.length_map]; omega
  refine wpAny_bind (wpAny_newList ?_ hsz)
  have hoL : (h'.push (seqObj "list" acc.toList.toArray 0)).get? h'.objs.size = some (seqObj "list" acc.toList.toArray 0) := Heap.get?_push_size _ rfl
  show wpAny _ _ _ _ _ { s with heap := h'.push (seqObj "list" acc.toList.toArray 0), toks := tk }
  have e1 : EachIs (fun v (q : Addr × List Str) => v = Value.ref q.1) acc.toList ts := by rw [ea]; exact eachs_of ts fun _ _ => rfl
  have er : EachIs (fun v (q : Addr × List Str) => ∃ as, Reads (h'.push (seqObj "list" acc.toList.toArray 0)) v (encW q) as ∧ h'.objs.size ∉ as) acc.toList ts := by
    rw [ea]
    exact eachs_of ts fun q hq => ⟨[], Reads.keeps (fun b o e => Heap.get?_push_of_some _ e) (reads_ts I1 (.inl (.inl (ht3 q hq)))), by simp⟩
  refine wpAny_bind (wpAny_holding (list_sort_data (s := { s with heap := h'.push (seqObj "list" acc.toList.toArray 0), toks := tk }) (enc := encW) hoL e1 er (hal_W ts) (hk_W W hn) (by rw [ea, List.length_map] at hsz; exact hsz) (fun b hb => ?_) fun out ol oe => ?_))
  · show X.A.in1.units + 1 + (PyData.tuple (b.2.map PyData.str)).depth < cLine
    rw [depth_W]; simp only [Around.in1_units]; omega
  · obtain ⟨m1, m2⟩ := mergeW W
    have eo := eachs_eq oe
    generalize ts.mergeSort (dataLe false encW) = ts' at m1 m2 eo
    obtain ⟨c, hc⟩ := sortedHeap_at (vs := acc.toList) (out := out.toArray) hoL
    have hl2 : (ts'.map fun q => V.ref q.1).length ≤ sizeLine := by
      rw [List.length_map, m1.length_eq]; rw [ea, List.length_map] at hsz; exact hsz
    refine wpAny_pure ⟨_, rfl, .ref h'.objs.size, upd H h'.objs.size (.lst (ts'.map fun q => V.ref q.1)), I1.laid (t' := tk) (fun b u e => ?_) (Nat.le_refl _) ⟨hl2, out, c, by rw [eo]; exact refs_vals ts', hc⟩, rfl, q ts' _ (by rw [← ht2]; exact m1.map _) m2 (fun p hp => ht3 p (m1.subset hp)) (I1.hok.fresh (Nat.le_refl _))⟩
    have hb : b < h'.objs.size := Heap.lt_size e
    rw [sortedHeap_old (Nat.ne_of_lt hb) (by rw [size_push']; exact Nat.lt_succ_of_lt hb)]
    exact Heap.get?_push_of_some _ e
end
end Pr
/-! All effects of rows: the search by presses finds each once; a button more without lists doubles them; rows listed. -/
namespace Pr
open PySem PySem.Spec PyProof.Rows L2
def unS (k : List Key) : List Str := k.map fun x => match x with | .inr s => s | .inl _ => wSame
theorem unS_kStr (l : List Str) : unS (kStr l) = l := by unfold unS kStr; rw [List.map_map]; exact List.map_id l
def stepE (pan : List (List Int)) (k : List Key) (b : Nat) : List Key := kStr (joinM (unS k) (pressW pan (b : Int)))
/-- keys that are effects of rows -/
def PKe (pan : List (List Int)) (k : List Key) : Prop := ∃ r, InRow pan r ∧ k = kStr (effM pan r)
theorem eff_snoc {pan : List (List Int)} (g : Good pan) {b : Nat} (hb : b < pan.length) (r : List Int) : effM pan (r ++ [(b : Int)]) = joinM (effM pan r) (pressW pan (b : Int)) := by
  rw [eff_app, eff_one g (by omega) (by omega)]
theorem stepE_eff {pan : List (List Int)} (g : Good pan) {b : Nat} (hb : b < pan.length) (r : List Int) : stepE pan (kStr (effM pan r)) b = kStr (effM pan (r ++ [(b : Int)])) := by
  unfold stepE
  rw [unS_kStr, eff_snoc g hb]
theorem inRow_snoc {pan : List (List Int)} {r : List Int} {b : Nat} (h : InRow pan r) (hb : b < pan.length) : InRow pan (r ++ [(b : Int)]) := fun y hy => by
  rcases List.mem_append.mp hy with h1 | h1
  · exact h y h1
  · rw [List.mem_singleton.mp h1]; omega
theorem pke_step {pan : List (List Int)} (g : Good pan) {k : List Key} {b : Nat} (h : PKe pan k) (hb : b < pan.length) : PKe pan (stepE pan k b) := by
  obtain ⟨r, hr, rfl⟩ := h
  exact ⟨_, inRow_snoc hr hb, stepE_eff g hb r⟩
theorem few_e {pan : List (List Int)} {m : Nat} {ks : List (List Key)} (nd : ks.Nodup) (h : ∀ k ∈ ks, PKe pan k) (hm : pan.length ≤ m) : ks.length ≤ 3 ^ m := by
  have := few_of (b := 3) (n := pan.length) (P := fun k => ∃ r, k = kStr (effM pan r)) (dig := digW) (ks := ks) (fun k i _ _ => by
    unfold digW
    repeat' split
    all_goals omega) (fun k k' hk hk' hh => ?_) nd (fun k hk => by
      obtain ⟨r, _, e⟩ := h k hk
      exact ⟨r, e⟩)
  · exact Nat.le_trans this (Nat.pow_le_pow_right (by decide) hm)
  · obtain ⟨r, rfl⟩ := hk
    obtain ⟨r', rfl⟩ := hk'
    congr 1
    refine eff_ext fun c hc => ?_
    have := hh c hc
    unfold digW kStr at this
    rw [List.getElem?_map, List.getElem?_map, eff_get hc, eff_get hc] at this
    simp only [Option.map_some] at this
    rcases word3 pan (c : Int) r with a | a | a <;> rcases word3 pan (c : Int) r' with a' | a' | a' <;> rw [a, a'] at this ⊢
    all_goals (exfalso; revert this; decide +kernel)
theorem bfs_fewE {pan : List (List Int)} (g : Good pan) {m : Nat} (hm : pan.length ≤ m) {k : List Key} (h : PKe pan k) (i : Nat) : (bfsN (stepE pan) pan.length k i).length ≤ 3 ^ m := by
  have := few_e (pan := pan) (m := m) (bfs_nd (step := stepE pan) (n := pan.length) (s := k) i) (fun k' hk' => by
    obtain ⟨x, hx, rfl⟩ := List.mem_map.mp hk'
    exact bfs_all (P := PKe pan) h (fun k b hk hb => pke_step g hk hb) i x hx) hm
  rwa [List.length_map] at this
/-- all effects, in the order in which the search finds them -/
def effsM (pan : List (List Int)) : List (List Str) := (bfsN (stepE pan) pan.length (kStr (effM pan [])) 2187).map fun x => unS x.1
theorem pke0 (pan : List (List Int)) : PKe pan (kStr (effM pan [])) := ⟨[], (fun _ h => by cases h), rfl⟩
theorem effs_key {pan : List (List Int)} (g : Good pan) : ∀ x ∈ bfsN (stepE pan) pan.length (kStr (effM pan [])) 2187, PKe pan x.1 := bfs_all (P := PKe pan) (pke0 pan) (fun k b hk hb => pke_step g hk hb) 2187
theorem effs_nd {pan : List (List Int)} (g : Good pan) : (effsM pan).Nodup := by
  have nd := bfs_nd (step := stepE pan) (n := pan.length) (s := kStr (effM pan [])) 2187
  unfold effsM
  rw [List.nodup_iff_pairwise_ne, List.pairwise_map] at nd ⊢
  refine List.Pairwise.imp_of_mem (fun {a b} ha hb h e => h ?_) nd
  obtain ⟨r, _, er⟩ := effs_key g a ha
  obtain ⟨r', _, er'⟩ := effs_key g b hb
  rw [er, er', unS_kStr, unS_kStr] at e
  rw [er, er', e]
theorem effs_mem {pan : List (List Int)} (g : Good pan) (h7 : pan.length ≤ 7) {e : List Str} : e ∈ effsM pan ↔ ∃ r, InRow pan r ∧ e = effM pan r := by
  constructor
  · intro h
    obtain ⟨x, hx, rfl⟩ := List.mem_map.mp h
    obtain ⟨r, hr, er⟩ := effs_key g x hx
    exact ⟨r, hr, by rw [er, unS_kStr]⟩
  · rintro ⟨r, hr, rfl⟩
    have key : ∀ r : List Int, InRow pan r → kStr (effM pan r) ∈ keysB (bfsN (stepE pan) pan.length (kStr (effM pan [])) 2187) := fun r => by
      refine snoc_ind (P := fun r => InRow pan r → kStr (effM pan r) ∈ keysB (bfsN (stepE pan) pan.length (kStr (effM pan [])) 2187)) (fun _ => ?_) (fun r b ih hr => ?_) r
      · obtain ⟨u, hu⟩ := bfs_pre (step := stepE pan) (n := pan.length) (s := kStr (effM pan [])) (Nat.zero_le 2187)
        rw [← hu]
        unfold keysB; rw [List.map_append]
        exact List.mem_append_left _ (List.mem_singleton.mpr rfl)
      · have hr' : InRow pan r := fun y hy => hr y (List.mem_append_left _ hy)
        have hb := hr b (List.mem_append_right _ (List.mem_singleton.mpr rfl))
        obtain ⟨c, rfl⟩ : ∃ c : Nat, b = (c : Int) := ⟨b.toNat, (Int.toNat_of_nonneg hb.1).symm⟩
        obtain ⟨x, hx, ex⟩ := List.mem_map.mp (ih hr')
        have := bfs_closed (step := stepE pan) (n := pan.length) (s := kStr (effM pan [])) (M := 2187) (bfs_fewE g (m := 7) h7 (pke0 pan) 2187) x hx c (by omega)
        rw [ex, stepE_eff g (by omega)] at this
        exact this
    obtain ⟨x, hx, ex⟩ := List.mem_map.mp (key r hr)
    exact List.mem_map.mpr ⟨x, hx, by rw [ex, unS_kStr]⟩
theorem effs_w {pan : List (List Int)} (g : Good pan) : ∀ e ∈ effsM pan, e.length = pan.length ∧ ∀ x ∈ e, IsW x := fun e he => by
  obtain ⟨x, hx, rfl⟩ := List.mem_map.mp he
  obtain ⟨r, hr, er⟩ := effs_key g x hx
  rw [er, unS_kStr]
  exact ⟨effM_len pan r, fun x hx => eff3 hx⟩
/-! a button more without lists -/
def moreM (pan : List (List Int)) : List (List Int) := pan ++ [[]]
theorem more_len (pan : List (List Int)) : (moreM pan).length = pan.length + 1 := by unfold moreM; rw [List.length_append]; rfl
theorem more_good {pan : List (List Int)} (g : Good pan) (h9 : pan.length ≤ 9) : Good (moreM pan) := by
  have hl := more_len pan
  refine ⟨by omega, by omega, fun l hl' => ?_, fun l hl' x hx => ?_, fun i l hi hx => ?_⟩
  · rcases List.mem_append.mp hl' with h | h
    · exact g.up l h
    · rw [List.mem_singleton.mp h]; exact .nil
  · rcases List.mem_append.mp hl' with h | h
    · have := g.rng l h x hx; omega
    · rw [List.mem_singleton.mp h] at hx; cases hx
  · unfold moreM at hi
    rcases Nat.lt_or_ge i pan.length with h | h
    · rw [List.getElem?_append_left h] at hi
      exact g.own i l hi hx
    · rw [List.getElem?_append_right h] at hi
      have : l = [] := by
        have := List.mem_of_getElem? hi
        exact List.mem_singleton.mp this
      rw [this] at hx; cases hx
theorem more_rel {pan : List (List Int)} {b : Nat} (hb : b < pan.length) : (moreM pan).getD b [] = pan.getD b [] := by
  unfold moreM
  rw [List.getD_eq_getElem?_getD, List.getD_eq_getElem?_getD, List.getElem?_append_left hb]
theorem more_last (pan : List (List Int)) : (moreM pan).getD pan.length [] = [] := by
  unfold moreM
  rw [List.getD_eq_getElem?_getD, List.getElem?_append_right (Nat.le_refl _), Nat.sub_self]; rfl
/-- what a row does to the old buttons -/
theorem more_words {pan : List (List Int)} {c : Nat} (hc : c < pan.length) : ∀ (row : List Int) (w : Str), InRow (moreM pan) row → row.foldl (wordM (moreM pan) (c : Int)) w = (row.filter fun b => !decide (b = (pan.length : Int))).foldl (wordM pan (c : Int)) w
  | [], _, _ => rfl
  | b :: row, w, h => by
    have hb := h b List.mem_cons_self
    rw [more_len] at hb
    have ih := more_words hc row
    have h' : InRow (moreM pan) row := fun y hy => h y (List.mem_cons_of_mem _ hy)
    by_cases e : b = (pan.length : Int)
    · rw [List.filter_cons_of_neg (by simp [e]), List.foldl_cons, ih _ h']
      congr 1
      unfold wordM
      rw [if_neg (by omega), e, Int.toNat_natCast, more_last]
      simp
    · rw [List.filter_cons_of_pos (by simp [e]), List.foldl_cons, List.foldl_cons, ih _ h']
      congr 1
      unfold wordM
      rw [more_rel (by omega)]
theorem more_new {pan : List (List Int)} (g : Good pan) : ∀ (row : List Int) (w : Str), InRow (moreM pan) row → row.foldl (wordM (moreM pan) (pan.length : Int)) w = if (pan.length : Int) ∈ row then wOn else w
  | [], _, _ => by simp
  | b :: row, w, h => by
    have hb := h b List.mem_cons_self
    rw [more_len] at hb
    have h' : InRow (moreM pan) row := fun y hy => h y (List.mem_cons_of_mem _ hy)
    rw [List.foldl_cons, more_new g row _ h']
    by_cases e : b = (pan.length : Int)
    · subst e
      unfold wordM
      simp
    · have hn : (pan.length : Int) ∉ (moreM pan).getD b.toNat [] := by
        rw [more_rel (by omega)]
        intro hx
        have hbl : b.toNat < pan.length := by omega
        rw [List.getD_eq_getElem?_getD, List.getElem?_eq_getElem hbl] at hx
        have := g.rng _ (List.getElem_mem hbl) _ hx
        omega
      unfold wordM
      rw [if_neg e, if_neg hn]
      have e' : (pan.length : Int) ≠ b := fun z => e z.symm
      simp [e']
theorem more_eff {pan : List (List Int)} (g : Good pan) {row : List Int} (h : InRow (moreM pan) row) : effM (moreM pan) row = effM pan (row.filter fun b => !decide (b = (pan.length : Int))) ++ [if (pan.length : Int) ∈ row then wOn else wSame] := by
  unfold effM
  rw [more_len, List.range_succ, List.map_append]
  congr 1
  · refine List.map_congr_left fun c hc => ?_
    exact more_words (List.mem_range.mp hc) row wSame h
  · show [wordsM (moreM pan) row (pan.length : Int)] = _
    rw [show wordsM (moreM pan) row (pan.length : Int) = _ from more_new g row wSame h]
theorem more_count {pan : List (List Int)} (g : Good pan) (h6 : pan.length ≤ 6) : (effsM (moreM pan)).length = 2 * (effsM pan).length := by
  have g' := more_good g (by omega)
  have nd := effs_nd g
  have inj : ∀ {x : Str} {a b : List Str}, a ++ [x] = b ++ [x] → a = b := fun {x a b} e => List.append_inj_left' e rfl
  have nd2 : ((effsM pan).map (· ++ [wSame]) ++ (effsM pan).map (· ++ [wOn])).Nodup := by
    rw [List.nodup_append]
    refine ⟨?_, ?_, fun a ha b hb e => ?_⟩
    · rw [List.nodup_iff_pairwise_ne, List.pairwise_map]
      exact (List.nodup_iff_pairwise_ne.mp nd).imp fun h e => h (inj e)
    · rw [List.nodup_iff_pairwise_ne, List.pairwise_map]
      exact (List.nodup_iff_pairwise_ne.mp nd).imp fun h e => h (inj e)
    · obtain ⟨x, _, rfl⟩ := List.mem_map.mp ha
      obtain ⟨y, _, rfl⟩ := List.mem_map.mp hb
      have := List.append_inj_right' e rfl
      exact absurd (List.cons.inj this).1 (by decide)
  have perm : (effsM (moreM pan)).Perm ((effsM pan).map (· ++ [wSame]) ++ (effsM pan).map (· ++ [wOn])) := by
    refine (List.perm_ext_iff_of_nodup (effs_nd g') nd2).mpr fun e => ?_
    rw [effs_mem g' (by rw [more_len]; omega), List.mem_append, List.mem_map, List.mem_map]
    constructor
    · rintro ⟨r, hr, rfl⟩
      rw [more_eff g hr]
      have hin : InRow pan (r.filter fun b => !decide (b = (pan.length : Int))) := fun y hy => by
        obtain ⟨h1, h2⟩ := List.mem_filter.mp hy
        have := hr y h1
        rw [more_len] at this
        have h3 : y ≠ (pan.length : Int) := by simpa using h2
        omega
      have hm := (effs_mem g (by omega)).mpr ⟨_, hin, rfl⟩
      by_cases e : (pan.length : Int) ∈ r
      · exact .inr ⟨_, hm, by rw [if_pos e]⟩
      · exact .inl ⟨_, hm, by rw [if_neg e]⟩
    · have mk : ∀ r, InRow pan r → InRow (moreM pan) r ∧ (pan.length : Int) ∉ r ∧ (r.filter fun b => !decide (b = (pan.length : Int))) = r := fun r hr => ⟨fun y hy => by rw [more_len]; have := hr y hy; omega, fun hm => by have := hr _ hm; omega, List.filter_eq_self.mpr fun y hy => by have := hr y hy; simp; omega⟩
      rintro (⟨x, hx, rfl⟩ | ⟨x, hx, rfl⟩)
      · obtain ⟨r, hr, rfl⟩ := (effs_mem g (by omega)).mp hx
        obtain ⟨h1, h2, h3⟩ := mk r hr
        exact ⟨r, h1, by rw [more_eff g h1, h3, if_neg h2]⟩
      · obtain ⟨r, hr, rfl⟩ := (effs_mem g (by omega)).mp hx
        obtain ⟨h1, h2, h3⟩ := mk r hr
        have h4 : InRow (moreM pan) (r ++ [(pan.length : Int)]) := fun y hy => by
          rcases List.mem_append.mp hy with h | h
          · exact h1 y h
          · rw [List.mem_singleton.mp h, more_len]; omega
        refine ⟨_, h4, ?_⟩
        rw [more_eff g h4, if_pos (List.mem_append_right _ (List.mem_singleton.mpr rfl)), List.filter_append, h3]
        simp
  rw [perm.length_eq, List.length_append, List.length_map, List.length_map]; omega
/-! all rows of at most so many presses -/
def lvR (n : Nat) : Nat → List (List Int)
  | 0 => [[]]
  | k + 1 => (lvR n k).flatMap fun r => (List.range n).map fun b : Nat => r ++ [(b : Int)]
def listR (n : Nat) : Nat → List (List Int)
  | 0 => [[]]
  | k + 1 => listR n k ++ lvR n (k + 1)
theorem mem_lvR {n : Nat} : ∀ {k : Nat} {r : List Int}, r ∈ lvR n k ↔ r.length = k ∧ ∀ y ∈ r, 0 ≤ y ∧ y < (n : Int)
  | 0, r => by
    constructor
    · intro h; rw [List.mem_singleton.mp h]; exact ⟨rfl, fun _ h => by cases h⟩
    · rintro ⟨h, _⟩; rw [List.eq_nil_of_length_eq_zero h]; exact List.mem_singleton.mpr rfl
  | k + 1, r => by
    show r ∈ (lvR n k).flatMap _ ↔ _
    rw [List.mem_flatMap]
    constructor
    · rintro ⟨s, hs, hr⟩
      obtain ⟨b, hb, rfl⟩ := List.mem_map.mp hr
      obtain ⟨h1, h2⟩ := mem_lvR.mp hs
      have := List.mem_range.mp hb
      refine ⟨by rw [List.length_append, h1]; rfl, fun y hy => ?_⟩
      rcases List.mem_append.mp hy with h | h
      · exact h2 y h
      · rw [List.mem_singleton.mp h]; omega
    · rintro ⟨h1, h2⟩
      have hne : r ≠ [] := fun e => by rw [e] at h1; simp at h1
      have hl := h2 _ (List.getLast_mem hne)
      refine ⟨r.dropLast, mem_lvR.mpr ⟨by rw [List.length_dropLast, h1]; rfl, fun y hy => h2 y (List.dropLast_subset _ hy)⟩, List.mem_map.mpr ⟨(r.getLast hne).toNat, List.mem_range.mpr (by omega), ?_⟩⟩
      rw [Int.toNat_of_nonneg hl.1]
      exact List.dropLast_concat_getLast hne
theorem mem_listR {n : Nat} : ∀ {k : Nat} {r : List Int}, r ∈ listR n k ↔ r.length ≤ k ∧ ∀ y ∈ r, 0 ≤ y ∧ y < (n : Int)
  | 0, r => by
    have := mem_lvR (n := n) (k := 0) (r := r)
    show r ∈ lvR n 0 ↔ _
    rw [this]
    exact ⟨fun h => ⟨by omega, h.2⟩, fun h => ⟨by omega, h.2⟩⟩
  | k + 1, r => by
    show r ∈ listR n k ++ lvR n (k + 1) ↔ _
    rw [List.mem_append, mem_listR, mem_lvR]
    constructor
    · rintro (⟨h1, h2⟩ | ⟨h1, h2⟩)
      · exact ⟨by omega, h2⟩
      · exact ⟨by omega, h2⟩
    · rintro ⟨h1, h2⟩
      rcases Nat.lt_or_ge k r.length with h | h
      · exact .inr ⟨by omega, h2⟩
      · exact .inl ⟨h, h2⟩
theorem lex_snoc : ∀ {a b : List Int} {x y : Int}, a.length = b.length → (HT.lexLt a b = true ∨ (a = b ∧ x < y)) → HT.lexLt (a ++ [x]) (b ++ [y]) = true
  | [], [], x, y, _, h => by
    rcases h with h | ⟨_, h⟩
    · rw [lexLt_irr] at h; cases h
    · exact lexLt_hd h [] []
  | [], _ :: _, _, _, h, _ => by cases h
  | _ :: _, [], _, _, h, _ => by cases h
  | c :: a, d :: b, x, y, hl, h => by
    rw [List.cons_append, List.cons_append]
    by_cases e : c = d
    · subst e
      rw [lexLt_cc]
      refine lex_snoc (by simpa using hl) ?_
      rcases h with h | ⟨h, hx⟩
      · rw [lexLt_cc] at h; exact .inl h
      · exact .inr ⟨(List.cons.inj h).2, hx⟩
    · rcases h with h | ⟨h, _⟩
      · rw [HT.lexLt_cons, if_neg e] at h ⊢; exact h
      · exact absurd (List.cons.inj h).1 e
theorem lvR_srt {n : Nat} : ∀ k : Nat, (lvR n k).Pairwise fun a b => HT.lexLt a b = true
  | 0 => List.pairwise_singleton _ _
  | k + 1 => by
    show ((lvR n k).flatMap _).Pairwise _
    rw [List.pairwise_flatMap]
    refine ⟨fun r _ => ?_, (lvR_srt k).imp_of_mem fun {a b} ha hb h => ?_⟩
    · rw [List.pairwise_map]
      exact List.pairwise_lt_range.imp fun h => lex_snoc rfl (.inr ⟨rfl, by omega⟩)
    · intro x hx y hy
      obtain ⟨c, _, rfl⟩ := List.mem_map.mp hx
      obtain ⟨d, _, rfl⟩ := List.mem_map.mp hy
      exact lex_snoc (by rw [(mem_lvR.mp ha).1, (mem_lvR.mp hb).1]) (.inl h)
/-- shorter ones first, then in order -/
def Ahead (a b : List Int) : Prop := a.length < b.length ∨ (a.length = b.length ∧ HT.lexLt a b = true)
theorem listR_srt {n : Nat} : ∀ k : Nat, (listR n k).Pairwise Ahead
  | 0 => List.pairwise_singleton _ _
  | k + 1 => by
    show (listR n k ++ lvR n (k + 1)).Pairwise _
    refine List.pairwise_append.mpr ⟨listR_srt k, (lvR_srt (k + 1)).imp_of_mem fun {a b} ha hb h => .inr ⟨by rw [(mem_lvR.mp ha).1, (mem_lvR.mp hb).1], h⟩, fun a ha b hb => .inl ?_⟩
    have h1 := (mem_listR.mp ha).1
    have h2 := (mem_lvR.mp hb).1
    omega
/-- the first rows with their effects -/
def firstM (pan : List (List Int)) (rows : List (List Int)) : BL (List Key) := rows.foldl (fun L r => addK L (kStr (effM pan r)) r) []
theorem firstM_snoc (pan : List (List Int)) (rows : List (List Int)) (r : List Int) : firstM pan (rows ++ [r]) = addK (firstM pan rows) (kStr (effM pan r)) r := by
  unfold firstM; rw [List.foldl_append]; rfl
theorem firstM_nd (pan : List (List Int)) (rows : List (List Int)) : (keysB (firstM pan rows)).Nodup := by
  refine snoc_ind (P := fun rows => (keysB (firstM pan rows)).Nodup) List.nodup_nil (fun rows r ih => ?_) rows
  rw [firstM_snoc]
  exact addK_nd ih
theorem firstM_has (pan : List (List Int)) (rows : List (List Int)) : ∀ r ∈ rows, kStr (effM pan r) ∈ keysB (firstM pan rows) := by
  refine snoc_ind (P := fun rows => ∀ r ∈ rows, kStr (effM pan r) ∈ keysB (firstM pan rows)) (fun _ h => by cases h) (fun rows r ih s hs => ?_) rows
  rw [firstM_snoc]
  rcases List.mem_append.mp hs with h | h
  · obtain ⟨x, hx, e⟩ := List.mem_map.mp (ih s h)
    exact List.mem_map.mpr ⟨x, (addK_pre _ _ _).subset hx, e⟩
  · rw [List.mem_singleton.mp h]; exact addK_has _ _ _
/-- an entry's row is the first one with its effect -/
theorem firstM_ent (pan : List (List Int)) (rows : List (List Int)) : ∀ x ∈ firstM pan rows, x.1 = kStr (effM pan x.2) ∧ ∃ u v, rows = u ++ x.2 :: v ∧ ∀ s ∈ u, effM pan s ≠ effM pan x.2 := by
  refine snoc_ind (P := fun rows => ∀ x ∈ firstM pan rows, x.1 = kStr (effM pan x.2) ∧ ∃ u v, rows = u ++ x.2 :: v ∧ ∀ s ∈ u, effM pan s ≠ effM pan x.2) (fun _ h => by cases h) (fun rows r ih x hx => ?_) rows
  rw [firstM_snoc] at hx
  unfold addK at hx
  split at hx
  · obtain ⟨h1, u, v, h2, h3⟩ := ih x hx
    exact ⟨h1, u, v ++ [r], by rw [h2]; simp, h3⟩
  · rename_i hn
    rcases List.mem_append.mp hx with hx | hx
    · obtain ⟨h1, u, v, h2, h3⟩ := ih x hx
      exact ⟨h1, u, v ++ [r], by rw [h2]; simp, h3⟩
    · rw [List.mem_singleton.mp hx]
      exact ⟨rfl, rows, [], rfl, fun s hs e => hn (e ▸ firstM_has pan rows s hs)⟩
theorem first_best {pan : List (List Int)} {k : Nat} {x : List Key × List Int} (hx : x ∈ firstM pan (listR pan.length k)) : Best pan x.2 := by
  obtain ⟨_, u, v, e, hu⟩ := firstM_ent pan _ x hx
  have xm : x.2 ∈ listR pan.length k := by rw [e]; exact List.mem_append_right _ List.mem_cons_self
  obtain ⟨xl, xin⟩ := mem_listR.mp xm
  refine ⟨xin, fun r' hr' e' => ?_⟩
  rcases Nat.lt_or_ge k r'.length with h | h
  · exact ⟨by omega, fun hl => by omega⟩
  · have rm : r' ∈ u ++ x.2 :: v := by rw [← e]; exact mem_listR.mpr ⟨h, hr'⟩
    rcases List.mem_append.mp rm with h1 | h1
    · exact absurd e' (hu r' h1)
    · rcases List.mem_cons.mp h1 with rfl | h1
      · exact ⟨Nat.le_refl _, fun _ => lexLt_irr _⟩
      · have := listR_srt (n := pan.length) k
        rw [e] at this
        have := (List.pairwise_cons.mp (List.pairwise_append.mp this).2.1).1 r' h1
        rcases this with h2 | ⟨h2, h3⟩
        · exact ⟨by omega, fun hl => by omega⟩
        · exact ⟨by omega, fun _ => lexLt_asym h3⟩
/-- the listed rows have all effects, if no more buttons than presses -/
theorem first_keys {pan : List (List Int)} (g : Good pan) {k : Nat} (hk : pan.length ≤ k) (h7 : pan.length ≤ 7) : ((firstM pan (listR pan.length k)).map fun x => unS x.1).Perm (effsM pan) := by
  have ent := firstM_ent pan (listR pan.length k)
  refine (List.perm_ext_iff_of_nodup ?_ (effs_nd g)).mpr fun e => ?_
  · have nd := firstM_nd pan (listR pan.length k)
    unfold keysB at nd
    rw [List.nodup_iff_pairwise_ne, List.pairwise_map] at nd ⊢
    refine List.Pairwise.imp_of_mem (fun {a b} ha hb h e => h ?_) nd
    rw [(ent a ha).1, (ent b hb).1, unS_kStr, unS_kStr] at e
    rw [(ent a ha).1, (ent b hb).1, e]
  · rw [effs_mem g h7]
    constructor
    · intro h
      obtain ⟨x, hx, rfl⟩ := List.mem_map.mp h
      obtain ⟨h1, u, v, h2, _⟩ := ent x hx
      have xm : x.2 ∈ listR pan.length k := by rw [h2]; exact List.mem_append_right _ List.mem_cons_self
      exact ⟨x.2, (mem_listR.mp xm).2, by rw [h1, unS_kStr]⟩
    · rintro ⟨r, hr, rfl⟩
      have hp : plainM r ∈ listR pan.length k := mem_listR.mpr ⟨Nat.le_trans (nodup_few pan.length _ (plainM_nodup r) fun y hy => hr y (plainM_mem.mp hy)) hk, fun y hy => hr y (plainM_mem.mp hy)⟩
      obtain ⟨x, hx, ex⟩ := List.mem_map.mp (firstM_has pan _ _ hp)
      exact List.mem_map.mpr ⟨x, hx, by rw [ex, unS_kStr, eff_plain]⟩
/-! rows of words as data -/
theorem eqv_wordsA : ∀ a b : List (List Str), PyData.eqvAll (a.map dStrs) (b.map dStrs) = decide (a = b)
  | [], [] => rfl
  | [], _ :: _ => rfl
  | _ :: _, [] => rfl
  | x :: a, y :: b => by
    rw [List.map_cons, List.map_cons, PyData.eqvAll, eqv_wordsA a b, eqv_strs, Bool.eq_iff_iff]
    simp
theorem eqv_wordsT (a b : List (List Str)) : PyData.eqv (.tuple (a.map dStrs)) (.tuple (b.map dStrs)) = decide (a = b) := by
  simp only [PyData.eqv]; exact eqv_wordsA a b
theorem lay_wordsA : ∀ a : List (List Str), (∀ k ∈ a, ∀ x ∈ k, IsW x) → PyData.canLayAll0 (a.map dStrs) = true ∧ PyData.depthAll (a.map dStrs) ≤ 1
  | [], _ => ⟨by simp [PyData.canLayAll0], by simp [PyData.depthAll]⟩
  | x :: r, h => by
    obtain ⟨h1, h2⟩ := lay_wordsA r fun k hk => h k (List.mem_cons_of_mem _ hk)
    have h3 := lay_words (h x List.mem_cons_self)
    have h4 := depth_strs x
    refine ⟨?_, ?_⟩
    · rw [List.map_cons]
      simp only [PyData.canLayAll0, h1, Bool.and_true]
      unfold dStrs
      simp only [PyData.canLay0]
      exact h3
    · rw [List.map_cons]
      simp only [PyData.depthAll]
      unfold dStrs at h2 ⊢
      simp only [PyData.depth, h4]
      omega
theorem shp_wordsT {a : List (List Str)} (h : ∀ k ∈ a, ∀ x ∈ k, IsW x) : SeqAt.shaped (.tuple (a.map dStrs)) = true := by
  obtain ⟨h1, h2⟩ := lay_wordsA a h
  simp only [SeqAt.shaped, PyData.canLay0, PyData.depth, h1, Bool.true_and]
  exact decide_eq_true (by omega)
end Pr
/-! All rows without a button that occurs twice, shorter ones first, then in order: the first one with an effect is the best. -/
namespace Pr
open PySem PySem.Spec PyProof.Rows L2
def extD (n : Nat) (r : List Int) : List (List Int) := ((List.range n).filter fun b : Nat => !decide ((b : Int) ∈ r)).map fun b : Nat => r ++ [(b : Int)]
def lvD (n : Nat) : Nat → List (List Int)
  | 0 => [[]]
  | k + 1 => (lvD n k).flatMap (extD n)
def listD (n : Nat) : Nat → List (List Int)
  | 0 => [[]]
  | k + 1 => listD n k ++ lvD n (k + 1)
theorem extD_len (n : Nat) (r : List Int) : (extD n r).length ≤ n := by
  unfold extD
  rw [List.length_map]
  exact Nat.le_trans (List.length_filter_le _ _) (by rw [List.length_range]; exact Nat.le_refl _)
theorem flatD_len (n : Nat) : ∀ l : List (List Int), (l.flatMap (extD n)).length ≤ l.length * n
  | [] => by simp
  | x :: l => by
    rw [List.flatMap_cons, List.length_append, List.length_cons, Nat.succ_mul]
    have := flatD_len n l
    have := extD_len n x
    omega
theorem lvD_len (n : Nat) : ∀ k, (lvD n k).length ≤ n ^ k
  | 0 => by rw [Nat.pow_zero]; exact Nat.le_refl _
  | k + 1 => Nat.le_trans (flatD_len n (lvD n k)) (by rw [Nat.pow_succ]; exact Nat.mul_le_mul_right n (lvD_len n k))
theorem pow_le5 {n k : Nat} (hn : n ≤ 5) (hk : k ≤ 5) : n ^ k ≤ 3125 := Nat.le_trans (Nat.pow_le_pow_left hn k) (Nat.le_trans (Nat.pow_le_pow_right (by decide) hk) (by decide))
theorem listD_len {n : Nat} (hn : n ≤ 5) : ∀ {k : Nat}, k ≤ 5 → (listD n k).length ≤ 3125 * (k + 1)
  | 0, _ => by show 1 ≤ _; decide
  | k + 1, hk => by
    show (listD n k ++ lvD n (k + 1)).length ≤ _
    rw [List.length_append]
    have h1 := listD_len hn (k := k) (by omega)
    have h2 := Nat.le_trans (lvD_len n (k + 1)) (pow_le5 hn hk)
    omega
theorem nodup_snoc {r : List Int} {b : Int} : (r ++ [b]).Nodup ↔ r.Nodup ∧ b ∉ r := by
  rw [List.nodup_append]
  constructor
  · rintro ⟨h1, _, h3⟩
    exact ⟨h1, fun hb => h3 b hb b List.mem_cons_self rfl⟩
  · rintro ⟨h1, h2⟩
    refine ⟨h1, by simp, fun x hx y hy e => ?_⟩
    rw [List.mem_singleton] at hy
    exact h2 (by rw [← hy, ← e]; exact hx)
theorem mem_lvD {n : Nat} : ∀ {k : Nat} {r : List Int}, r ∈ lvD n k ↔ r.length = k ∧ r.Nodup ∧ ∀ y ∈ r, 0 ≤ y ∧ y < (n : Int)
  | 0, r => by
    constructor
    · intro h; rw [List.mem_singleton.mp h]; exact ⟨rfl, List.nodup_nil, fun _ h => by cases h⟩
    · rintro ⟨h, _⟩; rw [List.eq_nil_of_length_eq_zero h]; exact List.mem_singleton.mpr rfl
  | k + 1, r => by
    show r ∈ (lvD n k).flatMap _ ↔ _
    rw [List.mem_flatMap]
    constructor
    · rintro ⟨s, hs, hr⟩
      obtain ⟨b, hb, rfl⟩ := List.mem_map.mp hr
      obtain ⟨h1, h2, h3⟩ := mem_lvD.mp hs
      obtain ⟨hb, hn⟩ := List.mem_filter.mp hb
      have := List.mem_range.mp hb
      refine ⟨by rw [List.length_append, h1]; rfl, nodup_snoc.mpr ⟨h2, by simpa using hn⟩, fun y hy => ?_⟩
      rcases List.mem_append.mp hy with h | h
      · exact h3 y h
      · rw [List.mem_singleton.mp h]; omega
    · rintro ⟨h1, h2, h3⟩
      have hne : r ≠ [] := fun e => by rw [e] at h1; simp at h1
      have hl := h3 _ (List.getLast_mem hne)
      have er := List.dropLast_concat_getLast hne
      rw [← er] at h2
      obtain ⟨n1, n2⟩ := nodup_snoc.mp h2
      refine ⟨r.dropLast, mem_lvD.mpr ⟨by rw [List.length_dropLast, h1]; rfl, n1, fun y hy => h3 y (List.dropLast_subset _ hy)⟩, List.mem_map.mpr ⟨(r.getLast hne).toNat, List.mem_filter.mpr ⟨List.mem_range.mpr (by omega), ?_⟩, ?_⟩⟩
      · rw [Int.toNat_of_nonneg hl.1]; simpa using n2
      · rw [Int.toNat_of_nonneg hl.1]
        exact er
theorem mem_listD {n : Nat} : ∀ {k : Nat} {r : List Int}, r ∈ listD n k ↔ r.length ≤ k ∧ r.Nodup ∧ ∀ y ∈ r, 0 ≤ y ∧ y < (n : Int)
  | 0, r => by
    have := mem_lvD (n := n) (k := 0) (r := r)
    show r ∈ lvD n 0 ↔ _
    rw [this]
    exact ⟨fun h => ⟨by omega, h.2⟩, fun h => ⟨by omega, h.2⟩⟩
  | k + 1, r => by
    show r ∈ listD n k ++ lvD n (k + 1) ↔ _
    rw [List.mem_append, mem_listD, mem_lvD]
    constructor
    · rintro (⟨h1, h2⟩ | ⟨h1, h2⟩)
      · exact ⟨by omega, h2⟩
      · exact ⟨by omega, h2⟩
    · rintro ⟨h1, h2⟩
      rcases Nat.lt_or_ge k r.length with h | h
      · exact .inr ⟨by omega, h2⟩
      · exact .inl ⟨h, h2⟩
theorem lvD_srt {n : Nat} : ∀ k : Nat, (lvD n k).Pairwise fun a b => HT.lexLt a b = true
  | 0 => List.pairwise_singleton _ _
  | k + 1 => by
    show ((lvD n k).flatMap _).Pairwise _
    rw [List.pairwise_flatMap]
    refine ⟨fun r _ => ?_, (lvD_srt k).imp_of_mem fun {a b} ha hb h => ?_⟩
    · unfold extD
      rw [List.pairwise_map]
      exact (List.pairwise_lt_range.filter _).imp fun h => lex_snoc rfl (.inr ⟨rfl, by omega⟩)
    · intro x hx y hy
      obtain ⟨c, _, rfl⟩ := List.mem_map.mp hx
      obtain ⟨d, _, rfl⟩ := List.mem_map.mp hy
      exact lex_snoc (by rw [(mem_lvD.mp ha).1, (mem_lvD.mp hb).1]) (.inl h)
theorem listD_srt {n : Nat} : ∀ k : Nat, (listD n k).Pairwise Ahead
  | 0 => List.pairwise_singleton _ _
  | k + 1 => by
    show (listD n k ++ lvD n (k + 1)).Pairwise _
    refine List.pairwise_append.mpr ⟨listD_srt k, (lvD_srt (k + 1)).imp_of_mem fun {a b} ha hb h => .inr ⟨by rw [(mem_lvD.mp ha).1, (mem_lvD.mp hb).1], h⟩, fun a ha b hb => .inl ?_⟩
    have h1 := (mem_listD.mp ha).1
    have h2 := (mem_lvD.mp hb).1
    omega
theorem plain_short : ∀ {l : List Int}, ¬ l.Nodup → (plainM l).length < l.length
  | [], h => absurd List.nodup_nil h
  | x :: r, h => by
    rw [plainM]
    have hl := plainM_len r
    by_cases hx : x ∈ r
    · rw [if_pos hx, List.length_cons]; omega
    · rw [if_neg hx, List.length_cons, List.length_cons]
      have := plain_short (l := r) fun n => h (List.nodup_cons.mpr ⟨hx, n⟩)
      omega
/-- the first of a list's rows with an effect -/
def firstE (pan : List (List Int)) (rows : List (List Int)) (due : List Str) : Option (List Int) := rows.find? fun r => decide (effM pan r = due)
theorem firstE_best {pan : List (List Int)} {row : List Int} (hr : InRow pan row) : ∃ r, firstE pan (listD pan.length pan.length) (effM pan row) = some r ∧ Best pan r ∧ effM pan r = effM pan row := by
  have pin : ∀ {s : List Int}, InRow pan s → s.Nodup → s ∈ listD pan.length pan.length := fun {s} hs nd => mem_listD.mpr ⟨nodup_few pan.length s nd hs, nd, hs⟩
  have pm : plainM row ∈ listD pan.length pan.length := pin (fun y hy => hr y (plainM_mem.mp hy)) (plainM_nodup row)
  unfold firstE
  cases hf : (listD pan.length pan.length).find? fun r => decide (effM pan r = effM pan row) with
  | none =>
    have := List.find?_eq_none.mp hf _ pm
    exact absurd (decide_eq_true (eff_plain row)) this
  | some r =>
    have he : effM pan r = effM pan row := by have := List.find?_some hf; simpa using this
    refine ⟨r, rfl, ?_, he⟩
    obtain ⟨_, u, v, eu, hu⟩ := List.find?_eq_some_iff_append.mp hf
    have rm : r ∈ listD pan.length pan.length := by rw [eu]; exact List.mem_append_right _ List.mem_cons_self
    have key : ∀ s, s ∈ listD pan.length pan.length → effM pan s = effM pan r → s = r ∨ Ahead r s := fun s hs e => by
      rw [eu] at hs
      rcases List.mem_append.mp hs with h | h
      · have := hu s h
        rw [e, he] at this
        simp at this
      · rcases List.mem_cons.mp h with h | h
        · exact .inl h
        · have := listD_srt (n := pan.length) pan.length
          rw [eu] at this
          exact .inr ((List.pairwise_cons.mp (List.pairwise_append.mp this).2.1).1 s h)
    refine ⟨(mem_listD.mp rm).2.2, fun r' hr' e' => ?_⟩
    by_cases nd : r'.Nodup
    · rcases key r' (pin hr' nd) e' with rfl | h2 | ⟨h2, h3⟩
      · exact ⟨Nat.le_refl _, fun _ => lexLt_irr _⟩
      · exact ⟨by omega, fun hl => by omega⟩
      · exact ⟨by omega, fun _ => lexLt_asym h3⟩
    · have hlt := plain_short nd
      have hk := key (plainM r') (pin (fun y hy => hr' y (plainM_mem.mp hy)) (plainM_nodup r')) (by rw [eff_plain]; exact e')
      have : r.length ≤ (plainM r').length := by
        rcases hk with h | h | ⟨h, _⟩
        · rw [h]; exact Nat.le_refl _
        · omega
        · omega
      exact ⟨by omega, fun hl => by omega⟩
end Pr
namespace K14
open PySem PySem.Spec PyProof.Rows L2 Pr
def nLRows : List Str := ["_law_n", "_law_found", "_law_rows_here", "_law_press", "_law_longer", "_law_row_here", "_law_button"]
theorem scLRows : FnScope nLRows ["_law_n"] (defScope sLRows) := ⟨rfl, rfl, rfl, by decide +kernel, rfl, by decide +kernel, by decide +kernel⟩
section
variable {P : Program} {w : World} {K : PySem.W.Frag} {mg : Str → Option Value} {base : Heap}
def spLRows (K : PySem.W.Frag) : Sp := fun vs H Q _ => ∃ (n : Nat), vs = [.int (n : Int)] ∧ n ≤ 5 ∧
  ∀ (H' : Hp) (F : Addr) (vs' : List V), Same H H' → H F = none → H' F = some (.lst vs') → DpAll K H' vs' ((listD n n).map dInts) → Q (.ref F) H'
theorem ok_LRows  {f : Addr} {fd : FuncData} {k : Nat} (F : Fun K "_law_rows" "_law_rows" sLRows f fd)
    (m_range : mg "range" = none) : FnOk P w K mg base CX0 (k + 1) f fd ["_law_n"] (spLRows K) := by
  refine F.ok scLRows (fun vs H Q E h => ?_) (fun cdv A outer s H vs Q E hr h => ?_)
  · obtain ⟨n, rfl, _⟩ := h
    rfl
  · obtain ⟨n, rfl, hn, q⟩ := h
    refine ⟨_, pss_cons (ps_par (i := 1) (j := 2) rfl scLRows.nd rfl rfl (by decide) rfl rfl (pa_cons (pe_lst (pa_cons (pe_tup pa_nil) pa_nil)) (pa_cons (pe_lst (pa_cons (pe_tup pa_nil) pa_nil)) pa_nil)) (by rfl))
      (pss_cons (ps_for PassesOwn.never rfl (pi_range1 (by rfl) m_range (pa_cons (pv 0) pa_nil)) (pg_name (i := 3) scLRows.nd rfl (Or.inl rfl)) (pss_cons (ps_set (i := 4) scLRows.nd rfl (.inl rfl) (pe_lst pa_nil))
      (pss_cons (ps_for PassesOwn.never rfl (show PI _ _ _ (iList K _) from pi_list (pv 2)) (pg_name (i := 5) scLRows.nd rfl (Or.inr rfl)) (pss_one (ps_expr (show PE _ _ (tBM K "list" rExtend _ _) from pe_bm PySem.F.plainAttrs_list PySem.F.slot_list_extend PySem.F.type_list_extend mt_extend (pv 4) (pa_cons (pe_lc (own := [("_law_button", 6)]) (g := gName 6) rfl scLRows.nd (pi_range1 (by rfl) m_range (pa_cons (pv 0) pa_nil)) (blkOk_by (own := [("_law_button", 6)]) (N := nLRows) (sc := defScope sLRows) (by decide +kernel)) (fun _ _ _ _ _ => pg_name (i := 6) scLRows.nd rfl (Or.inl rfl)) (fun _ _ _ _ _ => pts_one (pt_cmpR (show OpR _ _ (rIn K true) from op_notIn_seq) (pv 6) (pv 5) (by rfl))) (fun _ _ _ _ _ => pe_op (show OpR _ _ (rCatS K) from op_catS) (pv 5) (pe_tup (pa_cons (pv 6) pa_nil)))) pa_nil)))))
      (pss_cons (ps_set (i := 2) scLRows.nd rfl (.inl rfl) (pv 4))
      (pss_one (ps_set (i := 1) scLRows.nd rfl (.inl rfl) (pe_op op_cat (pv 1) (pv 2))))))))
      (pss_one (ps_ret (pv 1)))), ?_⟩
    refine gs_parQ ?_
    refine tconsN_at (K := K) (gn_lst (gva_cons (gv_tup gva_nil) gva_nil)) fun F0 vF0 H1 s1 nF0 eF0 dF0 => ?_
    refine tconsN_at (K := K) (gn_lst (gva_cons (gv_tup gva_nil) gva_nil)) fun R0 vR0 H2 s2 nR0 eR0 dR0 => ⟨_, _, rfl, ?_⟩
    refine ⟨.int (n : Int), rfl, (n : Int), rfl, by omega, by omega, ?_⟩
    refine for_range (n := n) (fun k σ H5 => Same H H5 ∧ ∃ (F R : Addr) (vs us : List V) (x3 x4 x5 : Option V), H F = none ∧ H5 F = some (.lst vs) ∧ H5 R = some (.lst us) ∧ DpAll K H5 vs ((listD n k).map dInts) ∧ DpAll K H5 us ((lvD n k).map dInts) ∧ σ = [some (.int (n : Int)), some (.ref F), some (.ref R), x3, x4, x5, none])
      ⟨s1.trans s2, F0, R0, vF0, vR0, none, none, none, nF0, s2 _ _ eF0, eR0, dF0.sm s2, dR0, rfl⟩ (fun k σ H5 hk hP => ?_) (fun σ H5 hP => ?_)
    · obtain ⟨s5, F, R, vs, us, x3, x4, x5, nF, eF, eR, dvs, dus, rfl⟩ := hP
      refine gs_setN (K := K) (gn_lst gva_nil) fun lo vlo H6 s6 nlo elo dlo => ?_
      cases dlo
      have eF6 := s6 _ _ eF
      have eR6 := s6 _ _ eR
      have Rlo : R ≠ lo := ne_of_none eR nlo
      have Flo : F ≠ lo := ne_of_none eF nlo
      have ul : us.length = (lvD n k).length := by have := dus.length; rwa [List.length_map] at this
      have p4 := Nat.le_trans (lvD_len n k) (pow_le5 hn (show k ≤ 5 by omega))
      have dus6 := dus.sm s6
      have dvs6 := dvs.sm s6
      refine gs_seqS (fun σ H' => (∀ b o, b ≠ lo → H6 b = some o → H' b = some o) ∧ ∃ (ws : List V) (x5 : Option V), H' lo = some (.lst ws) ∧ DpAll K H' ws ((lvD n (k + 1)).map dInts) ∧ σ = [some (.int (n : Int)), some (.ref F), some (.ref R), some (.int (0 + (k : Int))), some (.ref lo), x5, none]) ?rest ?loop
      case loop =>
        intro hk2
        refine ⟨.ref R, rfl, R, rfl, ⟨_, .inl (.inl eR6)⟩, ?_⟩
        refine for_list (xs := us) (fun j σ H' => (∀ b o, b ≠ lo → H6 b = some o → H' b = some o) ∧ ∃ (ws : List V) (x5 : Option V), H' lo = some (.lst ws) ∧ DpAll K H' ws ((((lvD n k).take j).flatMap (extD n)).map dInts) ∧ σ = [some (.int (n : Int)), some (.ref F), some (.ref R), some (.int (0 + (k : Int))), some (.ref lo), x5, none])
          ⟨fun _ _ _ e => e, [], _, elo, .nil, rfl⟩ (fun j σ H' _ hP => .inl (.inl (hP.1 _ _ Rlo eR6))) (fun j x σ H' hx hP => ?_) (fun σ H' hP => ?_)
        · obtain ⟨b7, ws, x5', elo7, dws, rfl⟩ := hP
          obtain ⟨dd, hdd, dx⟩ := dpAll_get dus6 hx
          obtain ⟨r, hr, rfl⟩ : ∃ r, (lvD n k)[j]? = some r ∧ dd = dInts r := by
            rw [List.getElem?_map] at hdd
            cases e : (lvD n k)[j]? with
            | none => rw [e] at hdd; cases hdd
            | some t => rw [e] at hdd; exact ⟨t, rfl, (Option.some.inj hdd).symm⟩
          have jl : j < us.length := (List.getElem?_eq_some_iff.mp hx).1
          have k67 : Kp H6 H' := ⟨fun c ys e => b7 c _ (ne_of e elo (by intro z; cases z)) e, fun c o u e => b7 c _ (ne_of e elo (by intro z; cases z)) e⟩
          have dx7 : Dp K H' x (dInts r) := dx.kp k67 (lf_ints _)
          have rl : r.length = k := (mem_lvD.mp (List.mem_of_getElem? hr)).1
          have wl : ws.length ≤ j * n := by
            have := dws.length
            rw [List.length_map] at this
            rw [this]
            refine Nat.le_trans (flatD_len n _) (Nat.mul_le_mul_right n ?_)
            rw [List.length_take]; omega
          have wl2 : ws.length ≤ 15625 := Nat.le_trans wl (Nat.le_trans (Nat.mul_le_mul (show j ≤ 3125 by omega) hn) (by decide))
          refine ⟨.ref lo, rfl, .inl ⟨rfl, _, .inl (.inl elo7)⟩, (gn_lc (K := K) (δ := fun z : Nat => PyData.int (z : Int)) (as := List.range n) (p := fun z : Nat => !decide ((z : Int) ∈ r)) (f := fun z : Nat => dInts (r ++ [(z : Int)])) (gvi_range (gv_var (i := 0) rfl (.int (n : Int))) (by omega)) (fun z vz Hz hz sz dz => ⟨gvt_test (gv_inT (neg := true) (gv_var (i := 6) rfl dz) (gv_var (i := 5) rfl (dx7.sm sz))), fun _ => gv_cat1 (l := r) (m := [(z : Int)]) (gv_var (i := 5) rfl (dx7.sm sz)) (gv_tup (gva_cons (gv_var rfl dz) gva_nil) (by show 1 ≤ sizeLine; decide)) (by rw [rl]; show k + 1 ≤ 100000; omega)⟩) (fun _ _ => lf_ints _) (by rw [List.length_range]; omega)).at fun B vB H8 s8 nB eB dB => ?_⟩
          have eB' : ((List.range n).filter fun z : Nat => !decide ((z : Int) ∈ r)).map (fun z : Nat => dInts (r ++ [(z : Int)])) = (extD n r).map dInts := by unfold extD; rw [List.map_map]; rfl
          rw [eB'] at dB
          have bl : vB.length ≤ n := by have := dB.length; rw [List.length_map] at this; rw [this]; exact extD_len n r
          have elo8 := s8 _ _ elo7
          refine ⟨lo, B, _, _, rfl, rfl, elo8, eB, Nat.le_of_lt (small5 (by omega)), ?_⟩
          have kU := Kp.upd (o := .lst (ws ++ vB)) elo8
          refine ⟨fun b o hb e => by rw [upd_ne hb]; exact s8 _ _ (b7 b o hb e), ws ++ vB, _, upd_same, ?_, rfl⟩
          rw [List.take_add_one, hr, List.flatMap_append, List.map_append]
          refine DpAll.append (dpAll_kp ((Kp.of s8).trans kU) _ _ (lf_rowsR _) dws) (dpAll_kp kU _ _ (lf_rowsR _) ?_)
          have e1 : ([r].flatMap (extD n)) = extD n r := by simp
          rw [show (some r).toList = [r] from rfl, e1]
          exact dB
        · obtain ⟨b7, ws, x5', elo7, dws, rfl⟩ := hP
          refine hk2 _ _ ⟨b7, ws, _, elo7, ?_, rfl⟩
          rw [ul, List.take_of_length_le (Nat.le_refl _)] at dws
          exact dws
      case rest =>
        rintro σ H7 ⟨b7, ws, x5', elo7, dws, rfl⟩
        have k67 : Kp H6 H7 := ⟨fun c ys e => b7 c _ (ne_of e elo (by intro z; cases z)) e, fun c o u e => b7 c _ (ne_of e elo (by intro z; cases z)) e⟩
        have s57 : Same H5 H7 := fun b o e => b7 b o (ne_of_none e nlo) (s6 _ _ e)
        have eF7 := b7 _ _ Flo eF6
        have dvs7 : DpAll K H7 vs ((listD n k).map dInts) := dpAll_kp k67 _ _ (lf_rowsR _) dvs6
        have l1 := listD_len hn (k := k) (by omega)
        have l2 := Nat.le_trans (lvD_len n (k + 1)) (pow_le5 hn (show k + 1 ≤ 5 by omega))
        refine gs_setQS ⟨.ref lo, rfl, ?_⟩
        refine (gn_cat (K := K) (gl_var (i := 1) rfl eF7 dvs7) (gl_var (i := 2) rfl elo7 dws) (by rw [List.length_map, List.length_map]; omega)).at fun F' vF' H8 s8 nF' eF' dF' => ?_
        refine ⟨s5.trans (s57.trans s8), F', lo, vF', ws, _, _, _, (s5.trans s57).free nF', eF', s8 _ _ elo7, ?_, dws.sm s8, rfl⟩
        rw [show listD n (k + 1) = listD n k ++ lvD n (k + 1) from rfl, List.map_append]
        exact dF'
    · obtain ⟨s5, F, R, vs, us, x3, x4, x5, nF, eF, eR, dvs, dus, rfl⟩ := hP
      exact ⟨.ref F, rfl, q H5 F vs s5 nF eF dvs⟩
end
end K14
namespace K14
open PySem PySem.Spec PyProof.Rows L2 Pr
theorem Kp3 {H H' : Hp} {a c r : Addr} {m : Nat} (d : Dk3 H a c r m) (b : But a r H H') : Kp H H' :=
  ⟨fun p xs h => tup_but3 d b h, fun p o u h => by have q := d.apart h (fun _ => by intro z; cases z); exact b _ _ q.1 q.2 h⟩
def nLWords : List Str := ["_law_drawn", "_law_n", "_law_button"]
theorem scLWords : FnScope nLWords ["_law_drawn", "_law_n"] (defScope sLWords) := ⟨rfl, rfl, rfl, by decide +kernel, rfl, by decide +kernel, by decide +kernel⟩
section
variable {P : Program} {w : World} {K : PySem.W.Frag} {mg : Str → Option Value} {base : Heap}
def spLWords : Sp := fun vs H Q _ => ∃ (a c r : Addr) (m n : Nat), vs = [.ref a, .int (n : Int)] ∧ Dk3 H a c r (m + 10) ∧ n ≤ 10 ∧
  ∀ (H' : Hp) (t : Addr) (e : List Str), But a r H H' → Dk3 H' a c r m → FT H' t (e.map V.str) → e.length = n → (∀ x ∈ e, IsW x) → Q (.ref t) H'
theorem ok_LWords {fNext : Addr} {fdNext : FuncData} {f : Addr} {fd : FuncData} {k : Nat} (F : Fun K "_law_words" "_law_words" sLWords f fd)
    (FNext : Fun K "_law_next" "_law_next" sNext fNext fdNext) (bNext : Binds K fdNext ["_law_drawn", "_law_many"] []) (gNext : mg "_law_next" = some (.ref fNext))
    (m_len : mg "len" = none) (m_range : mg "range" = none) (m_tuple : mg "tuple" = none) : FnOk P w K mg base CX0 (k + 2) f fd ["_law_drawn", "_law_n"] (spLWords) := by
  have GNext : FnOk P w K mg base CX0 (k + 1) fNext fdNext ["_law_drawn", "_law_many"] spNext := ok_next FNext m_len
  refine F.ok scLWords (fun vs H Q E h => ?_) (fun cdv A outer s H vs Q E hr h => ?_)
  · obtain ⟨a, c, r, m, n, rfl, _⟩ := h
    rfl
  · obtain ⟨a, c, r, m, n, rfl, hD, hn, q⟩ := h
    refine ⟨_, pss_one (ps_ret (pe_callTy call_tupF (by rfl) m_tuple (by decide +kernel) (pa_cons (pe_lc (own := [("_law_button", 2)]) (g := gName 2) (tt := tYes) rfl scLWords.nd (pi_range1 (by rfl) m_range (pa_cons (pv 1) pa_nil)) (blkOk_by (own := [("_law_button", 2)]) (N := nLWords) (sc := defScope sLWords) (by decide +kernel)) (fun _ _ _ _ _ => pg_name (i := 2) scLWords.nd rfl (Or.inl rfl)) (fun _ _ _ _ _ => pts_nil) (fun _ _ _ _ _ => pe_ix (show IxR _ (rIxL K) from ix_list) (pe_lst (pa_cons pe_str (pa_cons pe_str (pa_cons pe_str pa_nil)))) (pe_call GNext (hr.mono (by omega)) (by rfl) gNext FNext.kp bNext .nil pass0 (pa_cons (pv 0) (pa_cons pe_int pa_nil))) (fun _ _ => rfl))) pa_nil))), ?_⟩
    refine ⟨.int (n : Int), rfl, (n : Int), rfl, by omega, by omega, fun D nD => ?_⟩
    have oD := hD.fresh nD
    refine lc_range (n := n) (fun i H2 => But a r H H2 ∧ Dk3 H2 a c r (m + 10 - i) ∧ ∃ acc : List Str, H2 D = some (.lst (acc.map V.str)) ∧ acc.length = i ∧ ∀ x ∈ acc, IsW x)
      ⟨But.of (same_new nD), (hD.same (same_new nD)).less (by omega), [], upd_same, rfl, fun x h => by cases h⟩ (fun i H2 hi hP => ?_) (fun H2 hP => ?_)
    · obtain ⟨b2, D2, acc, eD, al, am⟩ := hP
      refine ⟨rfl, tyes (iteT ⟨by show 3 ≤ sizeLine; decide, fun ql nql => ⟨.ref a, rfl, a, c, r, m + 10 - (i + 1), 3, rfl, (D2.same (same_new nql)).less (by omega), by decide, by decide, fun H3 z b3 D3 z0 z1 => ?_⟩⟩)⟩
      have oq := D2.fresh nql
      have eq3 : H3 ql = some (.lst [V.str wOn, .str wOff, .str wSame]) := b3 _ _ oq.1 oq.2.1 upd_same
      have eD3 : H3 D = some (.lst (acc.map V.str)) := b3 _ _ oD.1 oD.2.1 (same_new nql _ _ eD)
      obtain ⟨u, hu, wu⟩ : ∃ u, atI [V.str wOn, .str wOff, .str wSame] z = some (.str u) ∧ IsW u := by
        obtain h | h | h : z = 0 ∨ z = 1 ∨ z = 2 := by omega
        · subst h; exact ⟨_, rfl, .inr (.inl rfl)⟩
        · subst h; exact ⟨_, rfl, .inr (.inr rfl)⟩
        · subst h; exact ⟨_, rfl, .inl rfl⟩
      refine ⟨ql, _, z, .str u, rfl, rfl, .inl (.inl eq3), hu, acc.map V.str, eD3, by rw [List.length_map]; exact small1000 (by omega), ?_, D3.upd oD, acc ++ [u], by rw [upd_same, List.map_append]; rfl, by rw [List.length_append, al]; rfl, ?_⟩
      · intro b o h1 h2 e
        rw [upd_ne (ne_of_none e nD)]
        exact b3 _ _ h1 h2 (same_new nql _ _ (b2 _ _ h1 h2 e))
      · intro x hx
        rcases List.mem_append.mp hx with h | h
        · exact am x h
        · rw [List.mem_singleton.mp h]; exact wu
    · obtain ⟨b2, D2, acc, eD, al, am⟩ := hP
      refine ⟨D, _, rfl, .inl (.inl eD), fun t o nt ho => ?_⟩
      exact q _ t acc (b2.trans (But.of (same_new nt))) ((D2.same (same_new nt)).less (by omega)) ⟨o, upd_same, ho⟩ al am
end
end K14
/-! What the search by layers keeps. -/
namespace Pr
open PySem PySem.Spec PyProof.Rows L2
section
variable {pan : List (List Int)} {e : List Str}
theorem intL_upW (n : Nat) : (intL n).Pairwise (· < ·) := (Asc.full n).up
theorem metL_asc {t : List Int} : Asc pan.length (metL pan t) := ⟨(intL_upW _).filter _, fun x hx => (mem_metL.mp hx).1⟩
theorem Dist.asc {k : Nat} {S : List Int} (d : Dist pan e k S) : Asc pan.length S := by
  obtain ⟨t, _, _, h⟩ := d.row
  exact h ▸ metL_asc
theorem wholeM_asc : Asc pan.length (wholeM pan e) := ⟨(intL_upW _).filter _, fun x hx => (mem_wholeM.mp hx).1⟩
theorem zip_eAt (he : e.length = pan.length) : e.zipIdx = (List.range pan.length).map fun k : Nat => (eAt e (k : Int), k) := by
  refine List.ext_getElem? fun c => ?_
  rw [List.getElem?_zipIdx, List.getElem?_map]
  rcases Nat.lt_or_ge c pan.length with hc | hc
  · rw [eAt_get he hc, List.getElem?_range hc, Nat.zero_add]; rfl
  · rw [List.getElem?_eq_none (show e.length ≤ c by omega), List.getElem?_eq_none (by rw [List.length_range]; exact hc)]; rfl
theorem whole_data (he : e.length = pan.length) : ((e.zipIdx.filter fun x => !decide (x.1 = wSame)).map fun x => PyData.int ((x.2 : Nat) : Int)) = (wholeM pan e).map PyData.int := by
  rw [zip_eAt he]
  unfold wholeM intL
  rw [List.filter_map, List.filter_map, List.map_map, List.map_map]; rfl
def KB (KL : List (List Int)) : BL (List Key) := KL.map fun S => (kInt S, ([] : List Int))
theorem KB_map (KL : List (List Int)) : (KB KL).map (·.1) = KL.map kInt := by unfold KB; rw [List.map_map]; rfl
theorem KB_mem {KL : List (List Int)} {S : List Int} : kInt S ∈ (KB KL).map (·.1) ↔ S ∈ KL := by
  rw [KB_map, List.mem_map]
  exact ⟨fun ⟨x, hx, ex⟩ => kInt_inj ex ▸ hx, fun h => ⟨S, h, rfl⟩⟩
theorem KB_nd {KL : List (List Int)} (nd : KL.Nodup) : ((KB KL).map (·.1)).Nodup := by
  rw [KB_map, List.nodup_iff_pairwise_ne, List.pairwise_map]
  exact (List.nodup_iff_pairwise_ne.mp nd).imp fun h z => h (kInt_inj z)
theorem KB_snoc (KL : List (List Int)) (S : List Int) : KB (KL ++ [S]) = KB KL ++ [(kInt S, [])] := by unfold KB; rw [List.map_append]; rfl
theorem KB_len (KL : List (List Int)) : (KB KL).length = KL.length := List.length_map _
structure KnowI (pan : List (List Int)) (e : List Str) (j : Nat) (KL : List (List Int)) : Prop where
  nd : KL.Nodup
  mem : ∀ S, S ∈ KL ↔ ∃ i, i ≤ j ∧ Dist pan e i S
structure LateI (pan : List (List Int)) (e : List Str) (j : Nat) (KL M : List (List Int)) (W : List Int) (a c : Nat) (N : List (List Int)) : Prop where
  nd : (KL ++ N).Nodup
  dist : ∀ S ∈ N, Dist pan e (j + 1) S
  cov : ∀ S ∈ M.take a, ∀ b ∈ W, ∀ S', decF pan e S b = some S' → S' ∈ KL ++ N
  cov2 : ∀ S, M[a]? = some S → ∀ b ∈ W.take c, ∀ S', decF pan e S b = some S' → S' ∈ KL ++ N
variable {j a c : Nat} {KL M N : List (List Int)} {W : List Int}
theorem KnowI.few (hn : pan.length ≤ 10) (k : KnowI pan e j KL) : KL.length ≤ 1024 :=
  Nat.le_trans (few_states (n := pan.length) k.nd fun S hS => let ⟨_, _, d⟩ := (k.mem S).mp hS; d.asc) (Nat.pow_le_pow_right (by decide) hn)
theorem LateI.few (hn : pan.length ≤ 10) (k : KnowI pan e j KL) (l : LateI pan e j KL M W a c N) : (KL ++ N).length ≤ 1024 :=
  Nat.le_trans (few_states (n := pan.length) l.nd fun S hS => by
    rcases List.mem_append.mp hS with h | h
    · obtain ⟨_, _, d⟩ := (k.mem S).mp h; exact d.asc
    · exact (l.dist S h).asc) (Nat.pow_le_pow_right (by decide) hn)
theorem LateI.init (k : KnowI pan e j KL) : LateI pan e j KL M W 0 0 [] := ⟨by rw [List.append_nil]; exact k.nd, (fun _ h => by cases h), (fun _ h => by simp at h), (fun _ _ _ h => by simp at h)⟩
theorem LateI.skip (l : LateI pan e j KL M W a c N) {S : List Int} {b : Int} (hS : M[a]? = some S) (hb : W[c]? = some b) (h : ∀ S', decF pan e S b = some S' → S' ∈ KL ++ N) : LateI pan e j KL M W a (c + 1) N := by
  refine ⟨l.nd, l.dist, l.cov, fun S2 hS2 b2 hb2 S' hd => ?_⟩
  rw [hS] at hS2
  cases hS2
  rw [List.take_add_one, hb] at hb2
  rcases List.mem_append.mp hb2 with h2 | h2
  · exact l.cov2 S hS b2 h2 S' hd
  · rw [List.mem_singleton.mp h2] at hd; exact h S' hd
theorem LateI.add (g : Good pan) (he : e.length = pan.length) (k : KnowI pan e j KL) (hM : ∀ S, S ∈ M ↔ Dist pan e j S) (l : LateI pan e j KL M W a c N) {S S' : List Int} {b : Int} (hS : M[a]? = some S) (hb : W[c]? = some b) (h0 : 0 ≤ b) (h1 : b < (pan.length : Int)) (hd : decF pan e S b = some S') (hn : S' ∉ KL ++ N) : LateI pan e j KL M W a (c + 1) (N ++ [S']) := by
  have dS : Dist pan e (j + 1) S' := by
    obtain ⟨m, hm, dm⟩ := Dist.step g he ((hM S).mp (List.mem_of_getElem? hS)) h0 h1 hd
    rcases Nat.lt_or_ge j m with h | h
    · have : m = j + 1 := by omega
      exact this ▸ dm
    · exact absurd (List.mem_append_left _ ((k.mem S').mpr ⟨m, h, dm⟩)) hn
  have up : ∀ {x : List Int}, x ∈ KL ++ N → x ∈ KL ++ (N ++ [S']) := fun hx => by rw [← List.append_assoc]; exact List.mem_append_left _ hx
  refine ⟨?_, fun x hx => ?_, fun x hx b2 hb2 z hz => up (l.cov x hx b2 hb2 z hz), fun S2 hS2 b2 hb2 z hz => ?_⟩
  · rw [← List.append_assoc, List.nodup_append]
    refine ⟨l.nd, by simp, fun x hx y hy z => hn ?_⟩
    rw [List.mem_singleton.mp hy] at z
    exact z ▸ hx
  · rcases List.mem_append.mp hx with h | h
    · exact l.dist x h
    · rw [List.mem_singleton.mp h]; exact dS
  · rw [hS] at hS2
    cases hS2
    rw [List.take_add_one, hb] at hb2
    rcases List.mem_append.mp hb2 with h2 | h2
    · exact up (l.cov2 S hS b2 h2 z hz)
    · rw [List.mem_singleton.mp h2, hd] at hz
      cases hz
      exact List.mem_append_right _ (List.mem_append_right _ (List.mem_singleton.mpr rfl))
theorem LateI.row (l : LateI pan e j KL M W a W.length N) {S : List Int} (hS : M[a]? = some S) : LateI pan e j KL M W (a + 1) 0 N := by
  refine ⟨l.nd, l.dist, fun x hx b hb z hz => ?_, fun _ _ _ h => by simp at h⟩
  rw [List.take_add_one, hS] at hx
  rcases List.mem_append.mp hx with h | h
  · exact l.cov x h b hb z hz
  · rw [List.mem_singleton.mp h] at hz
    exact l.cov2 S hS b (by rw [List.take_length]; exact hb) z hz
theorem LateI.done (g : Good pan) (he : e.length = pan.length) (k : KnowI pan e j KL) (hM : ∀ S, S ∈ M ↔ Dist pan e j S) (l : LateI pan e j KL M (wholeM pan e) M.length 0 N) : (∀ S, S ∈ N ↔ Dist pan e (j + 1) S) ∧ KnowI pan e (j + 1) (KL ++ N) := by
  have key : ∀ S, S ∈ N ↔ Dist pan e (j + 1) S := fun S => ⟨l.dist S, fun d => by
    obtain ⟨S0, b, d0, hb, hd⟩ := d.pred g he
    have hm := l.cov S0 (by rw [List.take_length]; exact (hM S0).mpr d0) b hb S hd
    rcases List.mem_append.mp hm with h | h
    · obtain ⟨i, hi, di⟩ := (k.mem S).mp h
      have := di.uniq d
      omega
    · exact h⟩
  refine ⟨key, l.nd, fun S => ?_⟩
  rw [List.mem_append, k.mem, key]
  constructor
  · rintro (⟨i, hi, d⟩ | d)
    · exact ⟨i, by omega, d⟩
    · exact ⟨j + 1, Nat.le_refl _, d⟩
  · rintro ⟨i, hi, d⟩
    rcases Nat.lt_or_ge j i with h | h
    · have : i = j + 1 := by omega
      exact .inr (this ▸ d)
    · exact .inl ⟨i, h, d⟩
theorem KnowI.init (he : e.length = pan.length) : KnowI pan e 0 [[]] := by
  have d0 : Dist pan e 0 (metL pan []) := Dist.nil he
  rw [metL_nil] at d0
  refine ⟨by simp, fun S => ?_⟩
  rw [List.mem_singleton]
  constructor
  · rintro rfl; exact ⟨0, Nat.le_refl _, d0⟩
  · rintro ⟨i, hi, d⟩
    have : i = 0 := by omega
    subst this
    exact dist0 d
theorem first_layer (he : e.length = pan.length) (S : List Int) : S ∈ [([] : List Int)] ↔ Dist pan e 0 S := by
  rw [(KnowI.init (pan := pan) he).mem S]
  exact ⟨fun ⟨i, hi, d⟩ => by
    have : i = 0 := by omega
    exact this ▸ d, fun d => ⟨0, Nat.le_refl _, d⟩⟩
theorem any_sets {l : List Int} {R : List (List Int)} : ((R.map dInts).any fun z => PyData.eqv z (dInts l)) = decide (l ∈ R) := by
  rw [Bool.eq_iff_iff, List.any_eq_true, decide_eq_true_eq]
  constructor
  · rintro ⟨x, hx, h⟩
    obtain ⟨y, hy, rfl⟩ := List.mem_map.mp hx
    rw [eqv_di] at h
    exact of_decide_eq_true h ▸ hy
  · intro h
    exact ⟨dInts l, List.mem_map_of_mem h, by rw [eqv_di]; exact decide_eq_true rfl⟩
theorem none_sets {R : List (List Int)} : ((R.map dInts).any fun z => PyData.eqv z PyData.none) = false := by
  rw [List.any_eq_false]
  intro x hx
  obtain ⟨y, hy, rfl⟩ := List.mem_map.mp hx
  simp [dInts, PyData.eqv]
end
section
variable {K : PySem.W.Frag} {σ : L2.St} {H : Hp} {ta tb : TE} {R : List (List Int)}
theorem gv_inSet {l : List Int} (ha : Gv K ta σ H (dInts l)) (hb : Gv K tb σ H (.list (R.map dInts))) : Gv K (tOp (rInD K) ta tb) σ H (.bool (decide (l ∈ R))) :=
  gv_op2 ha hb fun x y H1 Q s hx hy q => ⟨dInts l, R.map dInts, hx, hy, shp_ints l, shp_rowsL R, by rw [any_sets]; exact q _ _ (Same.refl _) (.bl _)⟩
theorem gv_inNone (ha : Gv K ta σ H .none) (hb : Gv K tb σ H (.list (R.map dInts))) : Gv K (tOp (rInD K) ta tb) σ H (.bool false) :=
  gv_op2 ha hb fun x y H1 Q s hx hy q => ⟨.none, R.map dInts, hx, hy, rfl, shp_rowsL R, by rw [none_sets]; exact q _ _ (Same.refl _) (.bl _)⟩
theorem gv_notInSet {l : List Int} (ha : Gv K ta σ H (dInts l)) (hb : Gv K tb σ H (.list (R.map dInts))) : Gv K (tOp (rNotInD K) ta tb) σ H (.bool (!decide (l ∈ R))) :=
  gv_op2 ha hb fun x y H1 Q s hx hy q => ⟨dInts l, R.map dInts, hx, hy, shp_ints l, shp_rowsL R, by rw [any_sets]; exact q _ _ (Same.refl _) (.bl _)⟩
end
end Pr
/-! Lists of things that are no data: their length, items, whether they are empty. -/
namespace Pr
open PySem PySem.Spec PyProof.Rows L2
section
variable {K : PySem.W.Frag} {σ : L2.St} {H : Hp} {d : PyData} {i j : Nat} {S : Addr} {xs : List V} {v : V}
theorem gv_lenL1 (hi : σ[i]? = some (some (.ref S))) (e : H S = some (.lst xs)) : Gv K (tCB (rLenG K) (tCons (tVar i) tNil)) σ H (.int xs.length) := fun H1 s Q q =>
  ⟨.ref S, hi, S, xs, rfl, .inl (.inl (.inl (s _ _ e))), q _ H1 (Same.refl _) (.int _)⟩
theorem gv_ixLr {k : Nat} (hi : σ[i]? = some (some (.ref S))) (hj : σ[j]? = some (some (.int (k : Int)))) (e : H S = some (.lst xs)) (hx : xs[k]? = some v) (dv : Dp K H v d) : Gv K (tOp (rIxL K) (tVar i) (tVar j)) σ H d := fun H1 s Q q =>
  ⟨.ref S, hi, .int (k : Int), hj, S, xs, (k : Int), v, rfl, rfl, .inl (.inl (s _ _ e)), atI_nat hx, q _ H1 (Same.refl _) (dv.sm s)⟩
theorem gv_ixLc {k : Nat} (hi : σ[i]? = some (some (.ref S))) (e : H S = some (.lst xs)) (hx : xs[k]? = some v) (dv : Dp K H v d) : Gv K (tOp (rIxL K) (tVar i) (tC (.int (k : Int)))) σ H d := fun H1 s Q q =>
  ⟨.ref S, hi, S, xs, (k : Int), v, rfl, rfl, .inl (.inl (s _ _ e)), atI_nat hx, q _ H1 (Same.refl _) (dv.sm s)⟩
theorem at_lastH {l : List V} {v : V} : atI (l ++ [v]) (-1) = some v := by
  have e : ixN (l ++ [v]).length (-1) = some l.length := by
    unfold ixN
    rw [List.length_append]
    show (if (0 : Int) ≤ -1 then _ else _) = _
    rw [if_neg (by decide)]
    simp
    omega
  unfold atI
  rw [e]
  show (l ++ [v])[l.length]? = some v
  simp
theorem gv_lastL {r : V → Hp → VK → Prop} {us : List V} (hr : r = rU fun i => V.int (-i)) (hi : σ[i]? = some (some (.ref S))) (e : H S = some (.lst (us ++ [v]))) (dv : Dp K H v d) : Gv K (tOp (rIxL K) (tVar i) (tUn r (tC (.int 1)))) σ H d := by
  subst hr
  exact fun H1 s Q q => ⟨.ref S, hi, 1, rfl, S, _, _, v, rfl, rfl, .inl (.inl (s _ _ e)), at_lastH, q _ H1 (Same.refl _) (dv.sm s)⟩
theorem gvt_neE (hi : σ[i]? = some (some (.ref S))) (e : H S = some (.lst xs)) : GvT (tTest (tOp rNeE1 (tVar i) (tLst tNil))) σ H (!xs.isEmpty) := fun H1 s Q q =>
  ⟨.ref S, hi, Nat.zero_le _, fun L nL => ⟨S, L, xs, rfl, rfl, same_new nL _ _ (s _ _ e), upd_same, _, rfl, q _ (same_new nL)⟩⟩
end
end Pr
namespace K14
open PySem PySem.Spec PyProof.Rows L2 Pr

def LaysAt (K : PySem.W.Frag) (H : Hp) (LA : Addr) (As : List Addr) (Ls : List (List (List Int))) : Prop :=
  As.length = Ls.length ∧ H LA = some (.lst (As.map V.ref)) ∧ ∀ (i : Nat) (A : Addr) (M : List (List Int)), As[i]? = some A → Ls[i]? = some M → A ≠ LA ∧ ∃ vs, H A = some (.lst vs) ∧ DpAll K H vs (M.map dInts)
def dLays (Ls : List (List (List Int))) : PyData := .list (Ls.map fun M => .list (M.map dInts))
theorem LaysAt.dp {K : PySem.W.Frag} {H : Hp} {LA : Addr} {As : List Addr} {Ls : List (List (List Int))} (h : LaysAt K H LA As Ls) : Dp K H (.ref LA) (dLays Ls) := by
  obtain ⟨hl, e, hA⟩ := h
  refine .lst (.inl (.inl e)) (DpAll.of_get (by rw [List.length_map, List.length_map, hl]) fun i v d hv hd => ?_)
  rw [List.getElem?_map] at hv hd
  cases ha : As[i]? with
  | none => rw [ha] at hv; cases hv
  | some A =>
    cases hm : Ls[i]? with
    | none => rw [hm] at hd; cases hd
    | some M =>
      rw [ha] at hv; rw [hm] at hd; cases hv; cases hd
      obtain ⟨_, vs, eA, dvs⟩ := hA i A M ha hm
      exact .lst (.inl (.inl eA)) dvs
theorem LaysAt.keep {K : PySem.W.Frag} {H H' : Hp} {LA : Addr} {As : List Addr} {Ls : List (List (List Int))} (h : LaysAt K H LA As Ls) {P : Addr → Prop} (hP : ∀ b vs, H b = some (.lst vs) → P b) (kp : Kp H H') (k : ∀ b o, P b → H b = some o → H' b = some o) : LaysAt K H' LA As Ls := by
  obtain ⟨hl, e, hA⟩ := h
  refine ⟨hl, k _ _ (hP _ _ e) e, fun i A M ha hm => ?_⟩
  obtain ⟨ne, vs, eA, dvs⟩ := hA i A M ha hm
  exact ⟨ne, vs, k _ _ (hP _ _ eA) eA, dpAll_kp kp _ _ (lf_rowsR _) dvs⟩
theorem lay0_at {tr : TA} {σ : L2.St} {H : Hp} {Q : List V → Hp → Prop} (h : ∀ (A0 LA T : Addr) (H' : Hp), Same H H' → H A0 = none → H LA = none → H' T = some (.tup []) → H' A0 = some (.lst [.ref T]) → H' LA = some (.lst [.ref A0]) → A0 ≠ LA → tr σ H' fun us H2 => Q (.ref LA :: us) H2) : tCons (tLst (tCons (tLst (tCons (tTup tNil) tNil)) tNil)) tr σ H Q := by
  refine ⟨Nat.zero_le _, fun T nT => ⟨by show 1 ≤ sizeLine; decide, fun A0 nA => ⟨by show 1 ≤ sizeLine; decide, fun LA nL => ?_⟩⟩⟩
  have sT := same_new (o := HO.tup []) nT
  have sA := same_new (o := HO.lst [V.ref T]) nA
  have sL := same_new (o := HO.lst [V.ref A0]) nL
  refine h A0 LA T _ ((sT.trans sA).trans sL) (sT.free nA) ((sT.trans sA).free nL) (sL _ _ (sA _ _ upd_same)) (sL _ _ upd_same) upd_same fun z => ?_
  rw [← z, upd_same] at nL
  cases nL
theorem snocA {As : List Addr} {j : Nat} (h : As.length = j + 1) : ∃ As0 A, As = As0 ++ [A] ∧ As0.length = j := by
  have hne : As ≠ [] := fun z => by rw [z] at h; simp at h
  exact ⟨As.dropLast, As.getLast hne, (List.dropLast_concat_getLast hne).symm, by rw [List.length_dropLast, h]; rfl⟩

def nLays : List Str := ["_law_panel_here", "_law_effect_here", "_law_whole", "_law_layers_here", "_law_known", "_law_later", "_law_decided_here", "_law_after", "_law_button", "_law_word"]
theorem scLays : FnScope nLays ["_law_panel_here", "_law_effect_here"] (defScope sLays) := ⟨rfl, rfl, rfl, by decide +kernel, rfl, by decide +kernel, by decide +kernel⟩
section
variable {P : Program} {w : World} {K : PySem.W.Frag} {mg : Str → Option Value} {base : Heap}
def spLays (K : PySem.W.Frag) : Sp := fun vs H Q _ => ∃ (v1 v2 : V) (pan : List (List Int)) (e : List Str) (_ : Unit), vs = [v1, v2] ∧ Dp K H v1 (dPan pan) ∧ Dp K H v2 (dStrs e) ∧ Good pan ∧ e.length = pan.length ∧
  ∀ (v : V) (H' : Hp) (Ls : List (List (List Int))) (m : Nat), Same H H' → Dp K H' v (dLays Ls) → Ls.length = m + 1 → m ≤ 1024 → (∀ (i : Nat) (M : List (List Int)), Ls[i]? = some M → (∀ S, S ∈ M ↔ Dist pan e i S) ∧ M.length ≤ 1024) → (Dist pan e m (wholeM pan e) ∨ (Ls[m]? = some [] ∧ ∀ k, ¬ Dist pan e k (wholeM pan e))) → Q v H'
theorem ok_Lays {fDec : Addr} {fdDec : FuncData} {f : Addr} {fd : FuncData} {k : Nat} (F : Fun K "_law_layers" "_law_layers" sLays f fd)
    (FDec : Fun K "_law_decided" "_law_decided" sDec fDec fdDec) (bDec : Binds K fdDec ["_law_panel_here", "_law_effect_here", "_law_decided_here", "_law_button"] []) (gDec : mg "_law_decided" = some (.ref fDec))
    (m_enumerate : mg "enumerate" = none) (m_set : mg "set" = none) (m_sorted : mg "sorted" = none) (m_tuple : mg "tuple" = none) : FnOk P w K mg base CX0 (k + 2) f fd ["_law_panel_here", "_law_effect_here"] (spLays K) := by
  have GDec : FnOk P w K mg base CX0 (k + 1) fDec fdDec ["_law_panel_here", "_law_effect_here", "_law_decided_here", "_law_button"] (spDec K) := ok_Dec FDec m_set m_sorted m_tuple
  refine F.ok scLays (fun vs H Q E h => ?_) (fun cdv A outer s H vs Q E hr h => ?_)
  · obtain ⟨v1, v2, pan, e, _, rfl, _⟩ := h
    rfl
  · obtain ⟨v1, v2, pan, e, _, rfl, d1, d2, hg, he, q⟩ := h
    refine ⟨_, pss_cons (ps_set (i := 2) scLays.nd rfl (.inl rfl) (pe_callTy (show CallR _ _ (rTupG K) from cr_tupG) (by rfl) m_tuple (by decide +kernel) (pa_cons (pe_lc (own := [("_law_button", 8), ("_law_word", 9)]) (g := gTup K 2 (gCons (gName 8) (gCons (gName 9) gNil))) rfl scLays.nd (pi_enumT (by rfl) m_enumerate (pa_cons (pv 1) pa_nil)) (blkOk_by (own := [("_law_button", 8), ("_law_word", 9)]) (N := nLays) (sc := defScope sLays) (by decide +kernel)) (fun _ _ _ _ _ => pg_tup rfl (pgs_cons (pg_name (i := 8) scLays.nd rfl (Or.inl rfl)) (pgs_cons (pg_name (i := 9) scLays.nd rfl (Or.inl rfl)) pgs_nil))) (fun _ _ _ _ _ => pts_one (pt_cmpR op_ne (pv 9) pe_str (nomark _))) (fun _ _ _ _ _ => pv 8)) pa_nil)))
      (pss_cons (ps_par (i := 3) (j := 4) rfl scLays.nd rfl rfl (by decide) rfl rfl (pa_cons (pe_lst (pa_cons (pe_lst (pa_cons (pe_tup pa_nil) pa_nil)) pa_nil)) (pa_cons (pe_dispT hr.u1 (pe_tup pa_nil) pe_bl) pa_nil)) (by rfl))
      (pss_cons (ps_while PassesOwn.never (PW.pt (pw_and (pt_cmpR (show OpR _ _ (rNotInD K) from op_notInD hr.u65) (pv 2) (pe_ix (show IxR _ (rIxL K) from ix_list) (pv 3) (pe_un un_neg pe_int) (fun _ _ => rfl)) (by rfl)) (pw_and1 (pt_cmpR (show OpR _ _ (rNeD K) from op_neD hr.units) (pe_ix (show IxR _ (rIxL K) from ix_list) (pv 3) (pe_un un_neg pe_int) (fun _ _ => rfl)) (pe_lst pa_nil) (nomark _))))) (pss_cons (ps_set (i := 5) scLays.nd rfl (.inl rfl) (pe_lst pa_nil))
      (pss_cons (ps_for PassesOwn.never rfl (show PI _ _ _ (iList K _) from pi_list (pe_ix (show IxR _ (rIxL K) from ix_list) (pv 3) (pe_un un_neg pe_int) (fun _ _ => rfl))) (pg_name (i := 6) scLays.nd rfl (Or.inl rfl)) (pss_one (ps_for PassesOwn.never rfl (show PI _ _ _ (iTup K _) from pi_tup (pv 2)) (pg_name (i := 8) scLays.nd rfl (Or.inl rfl)) (pss_cons (ps_set (i := 7) scLays.nd rfl (.inl rfl) (pe_call GDec (hr.mono (by omega)) (by rfl) gDec FDec.kp bDec .nil pass0 (pa_cons (pv 0) (pa_cons (pv 1) (pa_cons (pv 6) (pa_cons (pv 8) pa_nil))))))
      (pss_one (ps_if (PW.pt (pw_and (pt_cmpR op_notN (pv 7) pe_non (by rfl)) (pw_and1 (pt_cmp (pc_dnotin hr.u1 (pv 7) (pv 4)) rfl)))) (pss_cons (ps_dput hr.u1 (pv 4) (pv 7) pe_bl rfl)
      (pss_one (ps_expr (show PE _ _ (tBM K "list" rAppend _ _) from pe_bm PySem.F.plainAttrs_list PySem.F.slot_list_append PySem.F.type_list_append mt_append (pv 5) (pa_cons (pv 7) pa_nil))))) pss_nil))))))
      (pss_one (ps_expr (show PE _ _ (tBM K "list" rAppend _ _) from pe_bm PySem.F.plainAttrs_list PySem.F.slot_list_append PySem.F.type_list_append mt_append (pv 3) (pa_cons (pv 5) pa_nil)))))))
      (pss_one (ps_ret (pv 3))))), ?_⟩
    have few := hg.few
    refine gs_set1 (K := K) (gv_tupL (((gn_lc2 (K := K) (i := 8) (j := 9) (δ1 := fun x : Str × Nat => PyData.int (x.2 : Nat)) (δ2 := fun x : Str × Nat => PyData.str x.1) (as := e.zipIdx) (p := fun x => !decide (x.1 = wSame)) (f := fun x => PyData.int (x.2 : Nat)) (gvi_enumT (δ := PyData.str) (gv_var (i := 1) rfl d2)) (fun x u v Hx hx sx du dv => ⟨gvt_test (gv_neS (gv_var (i := 9) rfl dv) gv_str), fun _ => gv_var (i := 8) rfl du⟩) (fun _ _ => rfl) (by rw [List.length_zipIdx]; omega) (by decide)).to (whole_data he)).gv)) fun vW H1 s1 dW => ?_
    have wa : Asc pan.length (wholeM pan e) := wholeM_asc
    obtain ⟨W, rfl, hW⟩ := Dp.intsI (l := wholeM pan e) dW
    refine gs_parQ ?_
    refine lay0_at fun A0 LA T H2 s2 nA0 nLA eT eA0 eLA A0L => ?_
    intro KN nKN
    have sK := same_new (o := HO.dT []) nKN
    refine ⟨Nat.zero_le _, fun T2 nT2 => ?_⟩
    have sT2 := same_new (o := HO.tup []) nT2
    have T2K : T2 ≠ KN := fun z => by rw [z, upd_same] at nT2; cases nT2
    refine ⟨sT2 _ _ upd_same, .bl true, T2, [], rfl, upd_same, _, _, rfl, ?_⟩
    have sH3 : Same H2 (upd (upd (upd H2 KN (.dT [])) T2 (.tup [])) KN (.dT [([], .bl true)])) := fun b o eb => by
      rw [upd_ne (ne_of_none eb nKN)]; exact sT2 _ _ (sK _ _ eb)
    have hD0 : DictU (upd (upd (upd H2 KN (.dT [])) T2 (.tup [])) KN (.dT [([], .bl true)])) KN (KB [[]]) := ⟨[.bl true], rfl, upd_same⟩
    refine gen_heap (fun H3 => Same H2 H3 ∧ DictU H3 KN (KB [[]])) ⟨sH3, hD0⟩ fun H3 ⟨s23, hD3⟩ => ?_
    have s13 := s2.trans s23
    have nLA1 : H1 LA = none := nLA
    have nKN1 : H1 KN = none := s2.free nKN
    have d13 := d1.sm (s1.trans s13)
    have d23 := d2.sm (s1.trans s13)
    have hW3 := same_sqT s13 hW
    have nLA0 : H LA = none := s1.free nLA1
    have nKN0 : H KN = none := s1.free nKN1
    refine ⟨fun μ σ H' => ∃ (j : Nat) (As : List Addr) (Ls : List (List (List Int))) (KL : List (List Int)) (x5 x6 x7 x8 : Option V), ∃ (M0 : List (List Int)), Ls[j]? = some M0 ∧ μ = 2 * (1025 - KL.length) + min 1 M0.length ∧ j + min 1 M0.length ≤ KL.length ∧ (∀ i, i < j → ¬ Dist pan e i (wholeM pan e)) ∧ Ls.length = j + 1 ∧ LaysAt K H' LA As Ls ∧ (∀ (i : Nat) (M : List (List Int)), Ls[i]? = some M → (∀ S, S ∈ M ↔ Dist pan e i S) ∧ M.length ≤ 1024) ∧ KnowI pan e j KL ∧ DictU H' KN (KB KL) ∧ Same H H' ∧ SqT K H' W ((wholeM pan e).map V.int) ∧ σ = [some v1, some v2, some (.ref W), some (.ref LA), some (.ref KN), x5, x6, x7, x8, none],
      ⟨_, 0, [A0], [[[]]], [[]], none, none, none, none, [[]], rfl, rfl, by decide, (fun i hi => absurd hi (Nat.not_lt_zero _)), rfl, ⟨rfl, s23 _ _ eLA, fun i A M ha hM => ?_⟩, fun i M hM => ?_, .init he, hD3, s1.trans s13, hW3, rfl⟩, ?_⟩
    · cases i with
      | zero =>
        cases ha; cases hM
        exact ⟨A0L, [.ref T], s23 _ _ eA0, .cons (.tup (.inl (.inl (s23 _ _ eT))) .nil) .nil⟩
      | succ i => simp at ha
    · cases i with
      | zero => cases hM; exact ⟨first_layer he, by decide⟩
      | succ i => simp at hM
    rintro μ σ H4 ⟨j, As, Ls, KL, x5, x6, x7, x8, M, hM, rfl, hj, hbe, hLl, hL4, hLs, kn, hD4, s04, hW4, rfl⟩
    obtain ⟨As0, A, rfl, hAl⟩ := snocA (hL4.1.trans hLl)
    have hjl : j < Ls.length := by omega
    have hAj : (As0 ++ [A])[j]? = some A := by rw [List.getElem?_append_right (by omega), hAl, Nat.sub_self]; rfl
    obtain ⟨hMm, hMl⟩ := hLs j M hM
    obtain ⟨ALA, vs, eA, dvs⟩ := hL4.2.2 j A M hAj hM
    have eL4 := hL4.2.1
    rw [List.map_append] at eL4
    have dA4 : Dp K H4 (.ref A) (.list (M.map dInts)) := .lst (.inl (.inl eA)) dvs
    have dW4 : Dp K H4 (.ref W) (dInts (wholeM pan e)) := dp_ints hW4
    refine (gvt_and (gvt_test (K := K) (gv_notInSet (l := wholeM pan e) (R := M) (gv_var (i := 2) rfl dW4) (gv_lastL (i := 3) rfl rfl eL4 dA4))) (fun Hy sy _ => gvt_test (gv_neI3 (l := M) (m := []) (gv_lastL (i := 3) rfl rfl (sy _ _ eL4) (dA4.sm sy)) (gv_lst gva_nil)))).at fun H5 s5 => ?_
    have hL5 : LaysAt K H5 LA (As0 ++ [A]) Ls := hL4.keep (P := fun _ => True) (fun _ _ _ => trivial) (.of s5) fun b o _ eb => s5 _ _ eb
    have s05 := s04.trans s5
    have few4 := kn.few few
    by_cases hne : M = []
    · rw [decide_eq_true hne, Bool.not_true, Bool.and_false]
      subst hne
      refine iteF ⟨.ref LA, rfl, q _ H5 Ls j s05 hL5.dp hLl (by omega) hLs (.inr ⟨hM, fun k dk => ?_⟩)⟩
      rcases Nat.lt_or_ge k j with h | h
      · exact hbe k h dk
      · obtain ⟨S', hS'⟩ := dk.all he h
        have := (hMm S').mpr hS'
        cases this
    rw [decide_eq_false hne, Bool.not_false, Bool.and_true]
    have hMp : 1 ≤ M.length := by
      cases M with
      | nil => exact absurd rfl hne
      | cons x y => simp
    by_cases hin : wholeM pan e ∈ M
    · rw [decide_eq_true hin]
      refine iteF ⟨.ref LA, rfl, q _ H5 Ls j s05 hL5.dp hLl (by omega) hLs (.inl ((hMm _).mp hin))⟩
    rw [decide_eq_false hin]
    refine iteT ⟨fun σ' H' => ∃ μ', μ' < 2 * (1025 - KL.length) + min 1 M.length ∧ ∃ (j : Nat) (As : List Addr) (Ls : List (List (List Int))) (KL : List (List Int)) (x5 x6 x7 x8 : Option V), ∃ (M0 : List (List Int)), Ls[j]? = some M0 ∧ μ' = 2 * (1025 - KL.length) + min 1 M0.length ∧ j + min 1 M0.length ≤ KL.length ∧ (∀ i, i < j → ¬ Dist pan e i (wholeM pan e)) ∧ Ls.length = j + 1 ∧ LaysAt K H' LA As Ls ∧ (∀ (i : Nat) (M : List (List Int)), Ls[i]? = some M → (∀ S, S ∈ M ↔ Dist pan e i S) ∧ M.length ≤ 1024) ∧ KnowI pan e j KL ∧ DictU H' KN (KB KL) ∧ Same H H' ∧ SqT K H' W ((wholeM pan e).map V.int) ∧ σ' = [some v1, some v2, some (.ref W), some (.ref LA), some (.ref KN), x5, x6, x7, x8, none], fun σ' H' h => h, ?_⟩
    have hD5 := hD4.same s5
    have eA5 := s5 _ _ eA
    have eL5 := s5 _ _ eL4
    have hW5 := same_sqT s5 hW4
    refine gs_setN (K := K) (gn_lst gva_nil) fun lt vlt H6 s6 nlt elt dlt => ?_
    cases dlt
    have hD6 := hD5.same s6
    obtain ⟨kvs, _, eK6⟩ := id hD6
    have ltK : lt ≠ KN := ne_of elt eK6 (by intro z; cases z)
    have eA6 := s6 _ _ eA5
    have eL6 := s6 _ _ eL5
    have hL6 : LaysAt K H6 LA (As0 ++ [A]) Ls := hL5.keep (P := fun _ => True) (fun _ _ _ => trivial) (.of s6) fun b o _ eb => s6 _ _ eb
    have hW6 := same_sqT s6 hW5
    have s06 := s05.trans s6
    have nlt0 : H lt = none := s05.free nlt
    have dvs6 := (dvs.sm s5).sm s6
    have kpL : ∀ {H' : Hp}, (∀ b o, b ≠ KN → b ≠ lt → H6 b = some o → H' b = some o) → Kp H6 H' := fun h => ⟨fun c ys eb => h c _ (ne_of eb eK6 (by intro z; cases z)) (ne_of eb elt (by intro z; cases z)) eb, fun c o u eb => h c _ (ne_of eb eK6 (by intro z; cases z)) (ne_of eb elt (by intro z; cases z)) eb⟩
    have AK : A ≠ KN := ne_of eA6 eK6 (by intro z; cases z)
    have Alt : A ≠ lt := ne_of_none eA5 nlt
    have LK : LA ≠ KN := ne_of eL6 eK6 (by intro z; cases z)
    have Llt : LA ≠ lt := ne_of_none eL5 nlt
    have vl : vs.length = M.length := by have := dvs.length; rwa [List.length_map] at this
    refine gs_seqS (fun σ H' => (∀ b o, b ≠ KN → b ≠ lt → H6 b = some o → H' b = some o) ∧ ∃ (N : List (List Int)) (ws : List V) (x6 x7 x8 : Option V), H' lt = some (.lst ws) ∧ DpAll K H' ws (N.map dInts) ∧ DictU H' KN (KB (KL ++ N)) ∧ LateI pan e j KL M (wholeM pan e) M.length 0 N ∧ σ = [some v1, some v2, some (.ref W), some (.ref LA), some (.ref KN), some (.ref lt), x6, x7, x8, none]) ?rest ?loop
    case loop =>
      intro hk
      refine ⟨.ref LA, rfl, 1, rfl, LA, _, _, .ref A, rfl, rfl, .inl (.inl eL6), at_lastH, A, rfl, ⟨_, .inl (.inl eA6)⟩, ?_⟩
      refine for_list (xs := vs) (fun a σ H' => (∀ b o, b ≠ KN → b ≠ lt → H6 b = some o → H' b = some o) ∧ ∃ (N : List (List Int)) (ws : List V) (x6 x7 x8 : Option V), H' lt = some (.lst ws) ∧ DpAll K H' ws (N.map dInts) ∧ DictU H' KN (KB (KL ++ N)) ∧ LateI pan e j KL M (wholeM pan e) a 0 N ∧ σ = [some v1, some v2, some (.ref W), some (.ref LA), some (.ref KN), some (.ref lt), x6, x7, x8, none])
        ⟨fun _ _ _ _ eb => eb, [], [], _, _, _, elt, .nil, by rw [List.append_nil]; exact hD6, .init kn, rfl⟩ (fun a σ H' _ hP => .inl (.inl (hP.1 _ _ AK Alt eA6))) (fun a x σ H' hx hP => ?_) (fun σ H' hP => ?_)
      · obtain ⟨b7, N, ws, x6', x7', x8', elt7, dws, hD7, lt7, rfl⟩ := hP
        obtain ⟨dd, hdd, dx⟩ := dpAll_get dvs6 hx
        obtain ⟨S, hS, rfl⟩ : ∃ r, M[a]? = some r ∧ dd = dInts r := by
          rw [List.getElem?_map] at hdd
          cases e : M[a]? with
          | none => rw [e] at hdd; cases hdd
          | some t => rw [e] at hdd; exact ⟨t, rfl, (Option.some.inj hdd).symm⟩
        have aS : Asc pan.length S := ((hMm S).mp (List.mem_of_getElem? hS)).asc
        have Sl := aS.len
        refine ⟨.ref W, rfl, W, rfl, ⟨_, sqT_kp (kpL b7) hW6⟩, ?_⟩
        refine for_tup (xs := (wholeM pan e).map V.int) (fun c σ H' => (∀ b o, b ≠ KN → b ≠ lt → H6 b = some o → H' b = some o) ∧ ∃ (N : List (List Int)) (ws : List V) (x7 x8 : Option V), H' lt = some (.lst ws) ∧ DpAll K H' ws (N.map dInts) ∧ DictU H' KN (KB (KL ++ N)) ∧ LateI pan e j KL M (wholeM pan e) a c N ∧ σ = [some v1, some v2, some (.ref W), some (.ref LA), some (.ref KN), some (.ref lt), some x, x7, x8, none])
          ⟨b7, N, ws, _, _, elt7, dws, hD7, lt7, rfl⟩ (fun c σ H' _ hP => sqT_kp (kpL hP.1) hW6) (fun c y σ H' hy hP => ?_) (fun σ H' hP => ?_)
        · obtain ⟨b8, N, ws, x7'', x8'', elt8, dws, hD8, lt8, rfl⟩ := hP
          obtain ⟨b, hb, rfl⟩ : ∃ b, (wholeM pan e)[c]? = some b ∧ y = V.int b := by
            rw [List.getElem?_map] at hy
            cases e : (wholeM pan e)[c]? with
            | none => rw [e] at hy; cases hy
            | some t => rw [e] at hy; exact ⟨t, rfl, (Option.some.inj hy).symm⟩
          have hbr := wa.rng b (List.mem_of_getElem? hb)
          obtain ⟨bn, rfl⟩ : ∃ bn : Nat, b = (bn : Int) := ⟨b.toNat, (Int.toNat_of_nonneg hbr.1).symm⟩
          have k68 := kpL b8
          have dx8 : Dp K H' x (dInts S) := dx.kp k68 (lf_ints _)
          have d18 : Dp K H' v1 (dPan pan) := (d1.sm s06).kp k68 (lf_pan _)
          have d28 : Dp K H' v2 (dStrs e) := (d2.sm s06).kp k68 (lf_strs _)
          have fewN := lt8.few few kn
          rw [List.length_append] at fewN
          have wsl : ws.length = N.length := by have := dws.length; rwa [List.length_map] at this
          refine gs_setQS ⟨v1, rfl, v2, rfl, x, rfl, .int (bn : Int), rfl, v1, v2, x, pan, e, S, bn, rfl, d18, d28, dx8, hg, he, by omega, aS.rng, by omega, fun hd H9 s9 => ?_, fun S' hd ad H9 s9 nad ead => ?_⟩
          · refine gs_noN (gvt_and (c := false) (gvt_test (gv_notN (K := K) (d := .none) (gv_var (i := 7) rfl .non) rfl)) (fun Hy sy hb => by cases hb)) rfl fun H10 s10 => ?_
            have s810 := s9.trans s10
            exact ⟨fun b o h1 h2 eb => s810 _ _ (b8 b o h1 h2 eb), N, ws, _, _, s810 _ _ elt8, dws.sm s810, hD8.same s810, lt8.skip hS hb (fun S' z => by rw [hd] at z; cases z), rfl⟩
          · have hD9 := hD8.same s9
            have ek9 : H9 ad = some (.tup ((kInt S').map kV)) := by rw [kInt_kV]; exact ead
            have dad : Dp K H9 (.ref ad) (dInts S') := dp_ints (.inl (.inl ead))
            refine gs_if (gvt_and (c := !decide (S' ∈ KL ++ N)) (gvt_test (gv_notN (K := K) (d := dInts S') (gv_var (i := 7) rfl dad) rfl)) (fun Hy sy _ => fun Hz sz Q' q' => ?_)) (fun h H10 s10 => ?_) (fun h H10 s10 => ?_)
            · have hDz := hD9.same (sy.trans sz)
              have ekz := sz _ _ (sy _ _ ek9)
              by_cases hi : S' ∈ KL ++ N
              · obtain ⟨vv, gv⟩ := hDz.some (KB_nd lt8.nd) (KB_mem.mpr hi) ekz
                refine ⟨.ref ad, rfl, .ref KN, rfl, KN, some vv, rfl, gv, false, rfl, ?_⟩
                rw [decide_eq_true hi] at q'
                exact q' _ (Same.refl _)
              · refine ⟨.ref ad, rfl, .ref KN, rfl, KN, none, rfl, hDz.none (fun z => hi (KB_mem.mp z)) ekz, true, rfl, ?_⟩
                rw [decide_eq_false hi] at q'
                exact q' _ (Same.refl _)
            · have hn : S' ∉ KL ++ N := by
                intro z
                rw [decide_eq_true z] at h
                simp at h
              have s810 := s9.trans s10
              obtain ⟨HB, hput, hDB, kpB, keepB⟩ := (hD9.same s10).put (fun z => hn (KB_mem.mp z)) (s10 _ _ ek9) (v := .bl true) (r := []) (by rw [KB_len, List.length_append]; omega)
              refine ⟨.ref KN, rfl, .ref ad, rfl, KN, HB, rfl, hput, ?_⟩
              have eltB := keepB _ _ ltK (s810 _ _ elt8)
              refine ⟨.ref lt, rfl, .inl ⟨rfl, _, .inl (.inl eltB)⟩, .ref ad, rfl, lt, ws, .ref ad, rfl, rfl, eltB, small5 (by omega), ?_⟩
              have kU := Kp.upd (o := .lst (ws ++ [.ref ad])) eltB
              have eadU : (upd HB lt (.lst (ws ++ [.ref ad]))) ad = some (.tup (S'.map V.int)) := kU.1 _ _ (kpB.1 _ _ (s10 _ _ ead))
              refine ⟨fun b o h1 h2 eb => by rw [upd_ne h2]; exact keepB _ _ h1 (s810 _ _ (b8 b o h1 h2 eb)), N ++ [S'], ws ++ [.ref ad], _, _, upd_same, ?_, ?_, lt8.add hg he kn hMm hS hb hbr.1 hbr.2 hd hn, rfl⟩
              · rw [List.map_append]
                exact DpAll.append (dpAll_kp (((Kp.of s810).trans kpB).trans kU) _ _ (lf_rowsR _) dws) (.cons (dp_ints (.inl (.inl eadU))) .nil)
              · obtain ⟨us, ul, eu⟩ := hDB
                rw [← List.append_assoc, KB_snoc]
                exact ⟨us, ul, by rw [upd_ne ltK.symm]; exact eu⟩
            · have hi : S' ∈ KL ++ N := Classical.byContradiction fun z => by
                rw [decide_eq_false z] at h
                cases h
              have s810 := s9.trans s10
              exact ⟨fun b o h1 h2 eb => s810 _ _ (b8 b o h1 h2 eb), N, ws, _, _, s810 _ _ elt8, dws.sm s810, hD8.same s810, lt8.skip hS hb (fun z hz => by rw [hd] at hz; cases hz; exact hi), rfl⟩
        · obtain ⟨b8, N, ws, x7'', x8'', elt8, dws, hD8, lt8, rfl⟩ := hP
          rw [List.length_map] at lt8
          exact ⟨b8, N, ws, _, _, _, elt8, dws, hD8, lt8.row hS, rfl⟩
      · obtain ⟨b7, N, ws, x6', x7', x8', elt7, dws, hD7, lt7, rfl⟩ := hP
        rw [vl] at lt7
        exact hk [some v1, some v2, some (.ref W), some (.ref LA), some (.ref KN), some (.ref lt), x6', x7', x8', none] H' ⟨b7, N, ws, x6', x7', x8', elt7, dws, hD7, lt7, rfl⟩
    case rest =>
      rintro σ H7 ⟨b7, N, ws, x6', x7', x8', elt7, dws, hD7, lt7, rfl⟩
      obtain ⟨hN, kn'⟩ := lt7.done hg he kn hMm
      have fewN := lt7.few few kn
      rw [List.length_append] at fewN
      have eL7 := b7 _ _ LK Llt eL6
      have As0l : As0.length = j := hAl
      refine ⟨.ref LA, rfl, .inl ⟨rfl, _, .inl (.inl eL7)⟩, .ref lt, rfl, LA, _, .ref lt, rfl, rfl, eL7, ?_, ?_⟩
      · rw [List.length_append, List.length_map, As0l]
        exact small5 (by show j + 1 ≤ 100000; omega)
      have kU := Kp.upd (o := .lst (As0.map V.ref ++ [V.ref A] ++ [.ref lt])) eL7
      have k67 := kpL b7
      refine ⟨_, ?_, j + 1, As0 ++ [A] ++ [lt], Ls ++ [N], KL ++ N, _, _, _, _, N, ?_, rfl, ?_, ?_, by rw [List.length_append, hLl]; rfl, ⟨?_, ?_, fun i B L hB hL => ?_⟩, fun i L hL => ?_, kn', ?_, fun b o eb => ?_, sqT_kp kU (sqT_kp k67 hW6), rfl⟩
      · rw [List.length_append]; omega
      · rw [List.getElem?_append_right (by omega), hLl, Nat.sub_self]; rfl
      · rw [List.length_append]; omega
      · intro i hi
        rcases Nat.lt_or_ge i j with h | h
        · exact hbe i h
        · have : i = j := by omega
          subst this
          exact fun z => hin ((hMm _).mpr z)
      · rw [List.length_append, List.length_append, List.length_append, hLl, As0l]; rfl
      · rw [upd_same, List.map_append, List.map_append]; rfl
      · rcases Nat.lt_or_ge i (j + 1) with hi | hi
        · rw [List.getElem?_append_left (by rw [List.length_append, As0l]; exact hi)] at hB
          rw [List.getElem?_append_left (by rw [hLl]; exact hi)] at hL
          obtain ⟨ne, us, eB, dus⟩ := hL6.2.2 i B L hB hL
          have BK : B ≠ KN := ne_of eB eK6 (by intro z; cases z)
          obtain ⟨_, us5, eB5, _⟩ := hL5.2.2 i B L hB hL
          exact ⟨ne, us, by rw [upd_ne ne]; exact b7 _ _ BK (ne_of_none eB5 nlt) eB, dpAll_kp (k67.trans kU) _ _ (lf_rowsR _) dus⟩
        · rw [List.getElem?_append_right (by rw [hLl]; exact hi), hLl] at hL
          rw [List.getElem?_append_right (by rw [List.length_append, As0l]; exact hi), List.length_append, As0l] at hB
          have ei : i = j + 1 := by
            have := (List.getElem?_eq_some_iff.mp hL).1
            rw [List.length_singleton] at this
            omega
          subst ei
          rw [Nat.sub_self] at hL
          rw [show j + 1 - (j + [A].length) = 0 from Nat.sub_self _] at hB
          cases hL; cases hB
          exact ⟨Llt.symm, ws, by rw [upd_ne Llt.symm]; exact elt7, dpAll_kp kU _ _ (lf_rowsR _) dws⟩
      · rcases Nat.lt_or_ge i (j + 1) with hi | hi
        · rw [List.getElem?_append_left (by rw [hLl]; exact hi)] at hL
          exact hLs i L hL
        · rw [List.getElem?_append_right (by rw [hLl]; exact hi), hLl] at hL
          have ei : i = j + 1 := by
            have := (List.getElem?_eq_some_iff.mp hL).1
            rw [List.length_singleton] at this
            omega
          subst ei
          rw [Nat.sub_self] at hL
          cases hL
          exact ⟨hN, by omega⟩
      · obtain ⟨us, ul, eu⟩ := hD7
        exact ⟨us, ul, by rw [upd_ne LK.symm]; exact eu⟩
      · have nL : b ≠ LA := ne_of_none eb nLA0
        rw [upd_ne nL]
        exact b7 _ _ (ne_of_none eb nKN0) (ne_of_none eb nlt0) (s06 _ _ eb)
end
end K14
namespace K14
open PySem PySem.Spec PyProof.Rows L2 Pr

theorem eAt_words {pan : List (List Int)} {row : List Int} {c : Nat} (hc : c < pan.length) : eAt (effM pan row) (c : Int) = wordsM pan row (c : Int) := by
  have h1 := eff_get (pan := pan) (row := row) hc
  rw [eAt_get (effM_len pan row) hc] at h1
  exact Option.some.inj h1
theorem dist_row {pan : List (List Int)} {row : List Int} (few : pan.length ≤ 10) (h : InRow pan row) : ∃ m, m ≤ 10 ∧ Dist pan (effM pan row) m (wholeM pan (effM pan row)) := by
  have he := effM_len pan row
  have pin : InRow pan (plainM row) := fun y hy => h y (plainM_mem.mp hy)
  have pp : PartR pan (effM pan row) (plainM row) := ⟨pin, (part_at he).mpr fun c hc => .inr (by
    rw [eAt_words hc]
    have h1 := eff_get (pan := pan) (row := plainM row) hc
    rw [eff_plain, eff_get hc] at h1
    exact (Option.some.inj h1).symm)⟩
  obtain ⟨k, k1, k2⟩ := Dist.ex pp
  rw [eff_whole he (eff_plain row)] at k2
  exact ⟨k, Nat.le_trans k1 (Nat.le_trans (nodup_few pan.length _ (plainM_nodup row) pin) few), k2⟩
def dDec (o : Option (List Int)) : PyData := match o with | some S => dInts S | none => .none
def inDec (o : Option (List Int)) (now : List (List Int)) : Bool := match o with | some S => decide (S ∈ now) | none => false
theorem inDec_iff {o : Option (List Int)} {now : List (List Int)} : inDec o now = true ↔ ∃ S1, o = some S1 ∧ S1 ∈ now := by
  cases o with
  | none => exact ⟨fun h => (by cases h), fun ⟨_, h, _⟩ => by cases h⟩
  | some S =>
    show decide (S ∈ now) = true ↔ _
    rw [decide_eq_true_eq]
    exact ⟨fun h => ⟨S, rfl, h⟩, fun ⟨_, h, h2⟩ => by cases h; exact h2⟩
theorem drop_rev {α : Type} {l : List α} {m i : Nat} {x : α} (hl : l.length = m + 1) (h : l.dropLast.reverse[i]? = some x) : i < m ∧ l[m - (i + 1)]? = some x := by
  have hi := (List.getElem?_eq_some_iff.mp h).1
  rw [List.length_reverse, List.length_dropLast, hl] at hi
  have him : i < m := by omega
  rw [List.getElem?_reverse (by rw [List.length_dropLast, hl]; exact hi), List.length_dropLast, hl, List.getElem?_dropLast, hl, if_pos (by omega)] at h
  refine ⟨him, ?_⟩
  rw [← h]
  congr 1
  omega
section
variable {K : PySem.W.Frag} {σ : L2.St} {H : Hp} {t : TE} {ta : TA} {E : XK}
theorem gv_lastDat {r : V → Hp → VK → Prop} (hr : r = rU fun i => V.int (-i)) {ds : List PyData} {d : PyData} (h : Gv K t σ H (.list (ds ++ [d]))) : Gv K (tOp (rIxL K) t (tUn r (tC (.int 1)))) σ H d := fun H1 s Q q => h H1 s _ fun v H2 s2 dv => by
  obtain ⟨a, xs, rfl, hs, da⟩ := dv.lstI
  have hl := da.length
  rw [List.length_append] at hl
  obtain ⟨x, hx, dx⟩ := da.get ds.length d (by rw [List.getElem?_append_right (Nat.le_refl _), Nat.sub_self]; rfl)
  have ex : xs = xs.take ds.length ++ [x] := by
    have h1 := (List.getElem?_eq_some_iff.mp hx)
    obtain ⟨h1, h2⟩ := h1
    have h3 : xs.drop (ds.length + 1) = [] := List.drop_eq_nil_of_le (by rw [hl]; exact Nat.le_refl _)
    rw [← h2, ← h3, ← List.drop_eq_getElem_cons h1, List.take_append_drop]
  subst hr
  exact ⟨1, rfl, a, xs, _, x, rfl, rfl, hs, by rw [ex]; exact at_lastH, q _ H2 s2 dx⟩
theorem gv_Dec {pan : List (List Int)} {e : List Str} {S : List Int} {b : Nat} (h : GvA K ta σ H [dPan pan, dStrs e, dInts S, .int (b : Int)]) (hg : Good pan) (he : e.length = pan.length) (hS : Asc pan.length S) (hb : b < pan.length) : Gv K (tCall (spDec K) [] E ta) σ H (dDec (decF pan e S (b : Int))) := fun H1 s Q q => h H1 s _ fun vs H2 s2 dv => by
  obtain ⟨v1, v2, v3, v4, rfl, d1, d2, d3, d4⟩ := dpAll4 dv
  cases d4
  have hl := hS.len
  have few := hg.few
  exact ⟨v1, v2, v3, pan, e, S, b, rfl, d1, d2, d3, hg, he, by omega, hS.rng, hb, fun hd H' s' => q _ H' (s2.trans s') (by rw [hd]; exact .non), fun S' hd a H' s' _ ea => q _ H' (s2.trans s') (by rw [hd]; exact dp_ints (.inl (.inl ea)))⟩
theorem gv_inDec {tb : TE} {o : Option (List Int)} {now : List (List Int)} (ha : Gv K t σ H (dDec o)) (hb : Gv K tb σ H (.list (now.map dInts))) : Gv K (tOp (rInD K) t tb) σ H (.bool (inDec o now)) := by
  cases o with
  | none => exact gv_inNone ha hb
  | some S => exact gv_inSet ha hb
end

def nBest : List Str := ["_law_panel_here", "_law_effect_here", "_law_layers_here", "_law_row_here", "_law_now", "_law_layer", "_law_found", "_law_button", "_law_word", "_law_one"]
theorem scBest : FnScope nBest ["_law_panel_here", "_law_effect_here"] (defScope sBest) := ⟨rfl, rfl, rfl, by decide +kernel, rfl, by decide +kernel, by decide +kernel⟩
section
variable {P : Program} {w : World} {K : PySem.W.Frag} {mg : Str → Option Value} {base : Heap}
def spBest (K : PySem.W.Frag) : Sp := fun vs H Q _ => ∃ (v1 v2 : V) (pan : List (List Int)) (e : List Str), vs = [v1, v2] ∧ Dp K H v1 (dPan pan) ∧ Dp K H v2 (dStrs e) ∧ Good pan ∧ e.length = pan.length ∧
  ∀ (v : V) (H' : Hp), Same H H' → ((v = .non ∧ ¬ ∃ row, InRow pan row ∧ effM pan row = e) ∨ (∃ r, Dp K H' v (dInts r) ∧ Best pan r ∧ effM pan r = e)) → Q v H'
theorem ok_Best {fDec : Addr} {fdDec : FuncData} {fLays : Addr} {fdLays : FuncData} {f : Addr} {fd : FuncData} {k : Nat} (F : Fun K "_law_best" "_law_best" sBest f fd)
    (FDec : Fun K "_law_decided" "_law_decided" sDec fDec fdDec) (bDec : Binds K fdDec ["_law_panel_here", "_law_effect_here", "_law_decided_here", "_law_button"] []) (gDec : mg "_law_decided" = some (.ref fDec))
    (FLays : Fun K "_law_layers" "_law_layers" sLays fLays fdLays) (bLays : Binds K fdLays ["_law_panel_here", "_law_effect_here"] []) (gLays : mg "_law_layers" = some (.ref fLays))
    (m_enumerate : mg "enumerate" = none) (m_len : mg "len" = none) (m_range : mg "range" = none) (m_set : mg "set" = none) (m_sorted : mg "sorted" = none) (m_tuple : mg "tuple" = none) : FnOk P w K mg base CX0 (k + 3) f fd ["_law_panel_here", "_law_effect_here"] (spBest K) := by
  have GLays : FnOk P w K mg base CX0 (k + 2) fLays fdLays ["_law_panel_here", "_law_effect_here"] (spLays K) := ok_Lays FLays FDec bDec gDec m_enumerate m_set m_sorted m_tuple
  have GDec : FnOk P w K mg base CX0 (k + 1) fDec fdDec ["_law_panel_here", "_law_effect_here", "_law_decided_here", "_law_button"] (spDec K) := ok_Dec FDec m_set m_sorted m_tuple
  refine F.ok scBest (fun vs H Q E h => ?_) (fun cdv A outer s H vs Q E hr h => ?_)
  · obtain ⟨v1, v2, pan, e, rfl, _⟩ := h
    rfl
  · obtain ⟨v1, v2, pan, e, rfl, d1, d2, hg, he, q⟩ := h
    refine ⟨_, pss_cons (ps_par (i := 2) (j := 3) rfl scBest.nd rfl rfl (by decide) rfl rfl (pa_cons (pe_call GLays (hr.mono (by omega)) (by rfl) gLays FLays.kp bLays .nil pass0 (pa_cons (pv 0) (pa_cons (pv 1) pa_nil))) (pa_cons (pe_tup pa_nil) pa_nil)) (by rfl))
      (pss_cons (ps_if (pt_cmpR (show OpR _ _ (rEqD K) from op_eqD hr.units) (pe_ix (show IxR _ (rIxL K) from ix_list) (pv 2) (pe_un un_neg pe_int) (fun _ _ => rfl)) (pe_lst pa_nil) (nomark _)) (pss_one (ps_ret pe_non)) pss_nil)
      (pss_cons (ps_set (i := 4) scBest.nd rfl (.inr rfl) (pe_lst (pa_cons (pe_callTy (show CallR _ _ (rTupG K) from cr_tupG) (by rfl) m_tuple (by decide +kernel) (pa_cons (pe_lc (own := [("_law_button", 7), ("_law_word", 8)]) (g := gTup K 2 (gCons (gName 7) (gCons (gName 8) gNil))) rfl scBest.nd (pi_enumT (by rfl) m_enumerate (pa_cons (pv 1) pa_nil)) (blkOk_by (own := [("_law_button", 7), ("_law_word", 8)]) (N := nBest) (sc := defScope sBest) (by decide +kernel)) (fun _ _ _ _ _ => pg_tup rfl (pgs_cons (pg_name (i := 7) scBest.nd rfl (Or.inl rfl)) (pgs_cons (pg_name (i := 8) scBest.nd rfl (Or.inl rfl)) pgs_nil))) (fun _ _ _ _ _ => pts_one (pt_cmpR op_ne (pv 8) pe_str (nomark _))) (fun _ _ _ _ _ => pv 7)) pa_nil)) pa_nil)))
      (pss_cons (ps_for PassesOwn.never rfl (show PI _ _ _ (iList K _) from pi_list (pe_revL2 (pv 2))) (pg_name (i := 5) scBest.nd rfl (Or.inl rfl)) (pss_cons (ps_set (i := 6) scBest.nd rfl (.inl rfl) (pe_lst pa_nil))
      (pss_cons (ps_for PassesOwn.never rfl (pi_range1 (by rfl) m_range (pa_cons (pe_callB (show CallR _ _ (rLenG K) from cr_lenG) (by rfl) m_len PySem.boot_len (pa_cons (pv 0) pa_nil)) pa_nil)) (pg_name (i := 7) scBest.nd rfl (Or.inr rfl)) (pss_one (ps_if (pt_cmpR (show OpR _ _ (rEqD K) from op_eqD hr.units) (pv 6) (pe_lst pa_nil) (nomark _)) (pss_cons (ps_setLc (i := 6) (own := [("_law_one", 9)]) (g := gName 9) rfl scBest.nd rfl rfl (sw_true rfl rfl rfl (by decide +kernel)) (show PI _ _ _ (iList K _) from pi_list (pv 5)) (blkOk_by (own := [("_law_one", 9)]) (N := nBest) (sc := defScope sBest) (by decide +kernel)) (fun _ _ _ _ _ => pg_name (i := 9) scBest.nd rfl (Or.inl rfl)) (fun _ _ _ _ _ => pts_one (pt_cmpR (show OpR _ _ (rInD K) from op_inD hr.u65) (pe_call GDec (hr.mono (by omega)) (by rfl) gDec FDec.kp bDec .nil pass0 (pa_cons (pv 0) (pa_cons (pv 1) (pa_cons (pv 9) (pa_cons (pv 7) pa_nil))))) (pv 4) (by rfl))) (fun _ _ _ _ _ => pv 9))
      (pss_one (ps_if (pt_cmpR (show OpR _ _ (rNeD K) from op_neD hr.units) (pv 6) (pe_lst pa_nil) (nomark _)) (pss_one (ps_set (i := 3) scBest.nd rfl (.inl rfl) (pe_op (show OpR _ _ (rCatS K) from op_catS) (pv 3) (pe_tup (pa_cons (pv 7) pa_nil))))) pss_nil))) pss_nil)))
      (pss_one (ps_set (i := 4) scBest.nd rfl (.inr rfl) (pv 6))))))
      (pss_one (ps_ret (pv 3)))))), ?_⟩
    have few := hg.few
    have hlp : (pan.map dInts).length = pan.length := List.length_map _
    refine gs_parQ ?_
    refine ⟨v1, rfl, v2, rfl, v1, v2, pan, e, (), rfl, d1, d2, hg, he, fun vL H1 Ls m s1 dL hLl hm hLs hend => ?_⟩
    refine ⟨Nat.zero_le _, fun T nT => ⟨_, _, rfl, ?_⟩⟩
    have sT := same_new (o := HO.tup []) nT
    have dT : Dp K (upd H1 T (.tup [])) (.ref T) (dInts []) := .tup (.inl (.inl upd_same)) .nil
    generalize upd H1 T (.tup []) = H2 at sT dT ⊢
    have s02 := s1.trans sT
    have dL2 := dL.sm sT
    obtain ⟨Ls0, M, eLs, hL0⟩ : ∃ Ls0 M, Ls = Ls0 ++ [M] ∧ Ls0.length = m := by
      have hne : Ls ≠ [] := fun z => by rw [z] at hLl; simp at hLl
      exact ⟨Ls.dropLast, Ls.getLast hne, (List.dropLast_concat_getLast hne).symm, by rw [List.length_dropLast, hLl]; rfl⟩
    have hMm : Ls[m]? = some M := by rw [eLs, List.getElem?_append_right (by omega), hL0, Nat.sub_self]; rfl
    refine gs_if1 (gvt_test (K := K) (gv_eqD (d := .list (M.map dInts)) (e := .list (([] : List (List Int)).map dInts)) (gv_lastDat (ds := Ls0.map fun M => .list (M.map dInts)) rfl ((gv_var (i := 2) rfl dL2).to (by unfold dLays; rw [eLs, List.map_append]; rfl))) (gv_lst gva_nil) (shp_rowsL M) (shp_rowsL []))) (fun hz H3 s3 => ?_) fun hz H3 s3 => ?_
    · rw [eqv_rowsL] at hz
      have hz : M = [] := of_decide_eq_true hz
      subst hz
      refine q .non H3 (s02.trans s3) (.inl ⟨rfl, ?_⟩)
      rintro ⟨row, hrow, hE⟩
      rcases hend with hd | ⟨_, hno⟩
      · have := ((hLs m [] hMm).1 _).mpr hd
        cases this
      · obtain ⟨m', _, hd⟩ := dist_row few hrow
        rw [hE] at hd
        exact hno m' hd
    rw [eqv_rowsL] at hz
    have hMne : M ≠ [] := of_decide_eq_false hz
    have hdm : Dist pan e m (wholeM pan e) := by
      rcases hend with hd | ⟨h0, _⟩
      · exact hd
      · rw [hMm] at h0
        exact absurd (Option.some.inj h0) hMne
    have s03 := s02.trans s3
    refine gs_setN (K := K) (gn_lst (gva_cons (gv_tupL (((gn_lc2 (K := K) (i := 7) (j := 8) (δ1 := fun x : Str × Nat => PyData.int (x.2 : Nat)) (δ2 := fun x : Str × Nat => PyData.str x.1) (as := e.zipIdx) (p := fun x => !decide (x.1 = wSame)) (f := fun x => PyData.int (x.2 : Nat)) (gvi_enumT (δ := PyData.str) (gv_var (i := 1) rfl (d2.sm s03))) (fun x u v Hx hx sx du dv => ⟨gvt_test (gv_neS (gv_var (i := 8) rfl dv) gv_str), fun _ => gv_var (i := 7) rfl du⟩) (fun _ _ => rfl) (by rw [List.length_zipIdx]; omega) (by decide)).to (whole_data he)).gv)) gva_nil) (by show 1 ≤ sizeLine; decide)) fun aN vN H4 s4 nN eN dN => ?_
    have dNow : Dp K H4 (.ref aN) (.list ([wholeM pan e].map dInts)) := .lst (.inl (.inl eN)) dN
    have s04 := s03.trans s4
    have dL4 := (dL2.sm s3).sm s4
    obtain ⟨LA, xs, rfl, hLA, dxs⟩ := Dp.lstI (ds := Ls.map fun M => .list (M.map dInts)) dL4
    have xl : xs.length = m + 1 := by have := dxs.length; rwa [List.length_map, hLl] at this
    refine gs_seqS (fun σ H' => Same H H' ∧ ∃ (p : List Int) (vR : V) (x4 x5 x6 x7 : Option V), Dp K H' vR (dInts p) ∧ Best pan p ∧ effM pan p = e ∧ σ = [some v1, some v2, some (.ref LA), some vR, x4, x5, x6, x7, none, none]) ?rest ?loop
    case rest =>
      rintro σ H5 ⟨s5, p, vR, x4, x5, x6, x7, dR, hB, hEp, rfl⟩
      exact ⟨vR, rfl, q vR H5 s5 (.inr ⟨p, dR, hB, hEp⟩)⟩
    case loop =>
      intro hk
      refine ⟨.ref LA, rfl, LA, xs, rfl, hLA, (fun z => by rw [z] at xl; simp at xl), fun rv nrv => ⟨rv, rfl, ⟨_, .inl (.inl upd_same)⟩, ?_⟩⟩
      have srv := same_new (o := HO.lst xs.dropLast.reverse) nrv
      have erv : (upd H4 rv (.lst xs.dropLast.reverse)) rv = some (.lst xs.dropLast.reverse) := upd_same
      have dN5 := dNow.sm srv
      have dR5 := ((dT.sm s3).sm s4).sm srv
      have dxs5 := dxs.sm srv
      generalize upd H4 rv (.lst xs.dropLast.reverse) = H5 at srv erv dN5 dR5 dxs5 ⊢
      have s05 := s04.trans srv
      refine for_list (xs := xs.dropLast.reverse) (fun i σ H' => Same H5 H' ∧ ∃ (p : List Int) (now : List (List Int)) (vR vN : V) (x5 x6 x7 : Option V), Dp K H' vR (dInts p) ∧ Dp K H' vN (.list (now.map dInts)) ∧ BackI pan e m i p now ∧ σ = [some v1, some v2, some (.ref LA), some vR, some vN, x5, x6, x7, none, none])
        ⟨Same.refl _, [], [wholeM pan e], .ref T, .ref aN, none, none, none, dR5, dN5, .start hdm, rfl⟩ (fun i σ H' _ hP => .inl (.inl (hP.1 _ _ erv))) (fun i x σ H' hx hP => ?_) (fun σ H' hP => ?_)
      · obtain ⟨s6, p, now, vR, vN, x5, x6, x7, dR, dN, bk, rfl⟩ := hP
        have s06 := s05.trans s6
        have hxi := drop_rev xl hx
        obtain ⟨him, hxx⟩ := hxi
        obtain ⟨dd, hdd, dx⟩ := dpAll_get dxs5 hxx
        obtain ⟨M, hM, rfl⟩ : ∃ M, Ls[m - (i + 1)]? = some M ∧ dd = .list (M.map dInts) := by
          rw [List.getElem?_map] at hdd
          cases e' : Ls[m - (i + 1)]? with
          | none => rw [e'] at hdd; cases hdd
          | some t => rw [e'] at hdd; exact ⟨t, rfl, (Option.some.inj hdd).symm⟩
        obtain ⟨hMd, hMl⟩ := hLs _ M hM
        have dx6 := dx.sm s6
        have d16 := d1.sm s06
        have d26 := d2.sm s06
        have pl : p.length = i := bk.len
        refine gs_setN (K := K) (gn_lst gva_nil) fun f0 vf0 H7 s7 nf0 ef0 df0 => ?_
        cases df0
        have dF0 : Dp K H7 (.ref f0) (.list (([] : List (List Int)).map dInts)) := .lst (.inl (.inl ef0)) .nil
        refine gs_seqS (fun σ H' => Same H7 H' ∧ ∃ (p' : List Int) (fs : List (List Int)) (vR' vF : V) (x7 : Option V), Dp K H' vR' (dInts p') ∧ Dp K H' vF (.list (fs.map dInts)) ∧ BackI pan e m (i + 1) p' fs ∧ σ = [some v1, some v2, some (.ref LA), some vR', some vN, some x, some vF, x7, none, none]) ?rest2 ?loop2
        case rest2 =>
          rintro σ H8 ⟨s8, p', fs, vR', vF, x7', dR', dF', bk', rfl⟩
          refine ⟨vF, rfl, s6.trans (s7.trans s8), p', fs, vR', vF, _, _, _, dR', dF', bk', rfl⟩
        case loop2 =>
          intro hk2
          refine ((gv_lenT (K := K) (gv_var (i := 0) rfl (d16.sm s7))).to (e := .int (pan.length : Int)) (by rw [hlp])).at fun vn H8 s8 dn => ?_
          cases dn
          refine ⟨(pan.length : Int), rfl, by omega, by omega, ?_⟩
          refine for_range (n := pan.length) (fun c σ H' => Same H7 H' ∧ ∃ (p' : List Int) (fs : List (List Int)) (vR' vF : V) (x7 : Option V), Dp K H' vR' (dInts p') ∧ Dp K H' vF (.list (fs.map dInts)) ∧ ((fs = [] ∧ p' = p ∧ ∀ c' : Nat, c' < c → ∀ S, ¬ (Dist pan e (m - (i + 1)) S ∧ ∃ S1, decF pan e S (c' : Int) = some S1 ∧ S1 ∈ now)) ∨ BackI pan e m (i + 1) p' fs) ∧ σ = [some v1, some v2, some (.ref LA), some vR', some vN, some x, some vF, x7, none, none])
            ⟨s8, p, [], vR, .ref f0, _, (dR.sm s7).sm s8, dF0.sm s8, .inl ⟨rfl, rfl, fun c' h => absurd h (Nat.not_lt_zero _)⟩, rfl⟩ (fun c σ H' hc hP => ?_) (fun σ H' hP => ?_)
          · obtain ⟨s9, p', fs, vR', vF, x7', dR', dF', alt, rfl⟩ := hP
            rw [Int.zero_add]
            have s79 := s7.trans s9
            refine gs_if (gvt_test (K := K) (gv_eqD (d := .list (fs.map dInts)) (e := .list (([] : List (List Int)).map dInts)) (gv_var (i := 6) rfl dF') (gv_lst gva_nil) (shp_rowsL fs) (shp_rowsL []))) (fun h1 HA sA => ?_) (fun h1 HA sA => ?_)
            · rw [eqv_rowsL] at h1
              have h1 : fs = [] := of_decide_eq_true h1
              subst h1
              obtain ⟨_, rfl, hno⟩ : ([] : List (List Int)) = [] ∧ p' = p ∧ ∀ c' : Nat, c' < c → ∀ S, ¬ (Dist pan e (m - (i + 1)) S ∧ ∃ S1, decF pan e S (c' : Int) = some S1 ∧ S1 ∈ now) := by
                rcases alt with h | h
                · exact h
                · exact absurd rfl h.ne
              have s6A := s79.trans sA
              refine gs_setN (K := K) (gn_lc (K := K) (δ := dInts) (as := M) (p := fun S => inDec (decF pan e S (c : Int)) now) (f := dInts) (gvi_list (gv_var (i := 5) rfl (dx6.sm s6A))) (fun S vS Hx hS sx dS => ⟨gvt_test (gv_inDec (gv_Dec (pan := pan) (e := e) (S := S) (b := c) (gva_cons (gv_var (i := 0) rfl ((d16.sm s6A).sm sx)) (gva_cons (gv_var (i := 1) rfl ((d26.sm s6A).sm sx)) (gva_cons (gv_var (i := 9) rfl dS) (gva_cons (gv_var (i := 7) rfl (.int (c : Int))) gva_nil)))) hg he ((hMd S).mp hS).asc hc) (gv_var (i := 4) rfl ((dN.sm s6A).sm sx))), fun _ => gv_var (i := 9) rfl dS⟩) (fun _ _ => lf_ints _) (by omega)) fun aF vsF HB sB nF eF dF => ?_
              have dFs : Dp K HB (.ref aF) (.list ((M.filter fun S => inDec (decF pan e S (c : Int)) now).map dInts)) := .lst (.inl (.inl eF)) dF
              have hf : ∀ S, S ∈ (M.filter fun S => inDec (decF pan e S (c : Int)) now) ↔ Dist pan e (m - (i + 1)) S ∧ ∃ S1, decF pan e S (c : Int) = some S1 ∧ S1 ∈ now := fun S => by
                rw [List.mem_filter, hMd S, inDec_iff]
              generalize (M.filter fun S => inDec (decF pan e S (c : Int)) now) = F at dFs hf
              have dRB := (dR'.sm sA).sm sB
              refine gs_if (gvt_test (K := K) (gv_neI3 (l := F) (m := []) (gv_var (i := 6) rfl dFs) (gv_lst gva_nil))) (fun h2 HC sC => ?_) (fun h2 HC sC => ?_)
              · have h2 : F ≠ [] := by simpa using h2
                refine gs_set (K := K) (gv_cat1 (l := p') (m := [(c : Int)]) (gv_var (i := 3) rfl (dRB.sm sC)) (gv_tup (gva_cons (gv_var (i := 7) rfl (.int (c : Int))) gva_nil) (by show 1 ≤ sizeLine; decide)) (by show p'.length + 1 ≤ 100000; omega)) fun vR2 HD sD dR2 => ?_
                exact ⟨s9.trans (sA.trans (sB.trans (sC.trans sD))), p' ++ [(c : Int)], F, vR2, .ref aF, _, dR2, (dFs.sm sC).sm sD, .inr (bk.next hg he hdm him hc hf h2 hno), rfl⟩
              · have h2 : F = [] := by simpa using h2
                refine ⟨s9.trans (sA.trans (sB.trans sC)), p', F, vR', .ref aF, _, dRB.sm sC, dFs.sm sC, .inl ⟨h2, rfl, fun c' hc' S hS => ?_⟩, rfl⟩
                rcases Nat.lt_or_ge c' c with h | h
                · exact hno c' h S hS
                · have : c' = c := by omega
                  subst this
                  have := (hf S).mpr hS
                  rw [h2] at this; cases this
            · rw [eqv_rowsL] at h1
              have h1 : fs ≠ [] := of_decide_eq_false h1
              refine ⟨s9.trans sA, p', fs, vR', vF, _, dR'.sm sA, dF'.sm sA, .inr ?_, rfl⟩
              rcases alt with ⟨h, _⟩ | h
              · exact absurd h h1
              · exact h
          · obtain ⟨s9, p', fs, vR', vF, x7', dR', dF', alt, rfl⟩ := hP
            refine hk2 [some v1, some v2, some (.ref LA), some vR', some vN, some x, some vF, x7', none, none] H' ⟨s9, p', fs, vR', vF, x7', dR', dF', ?_, rfl⟩
            rcases alt with ⟨_, _, hno⟩ | h
            · obtain ⟨b, s, hb, h1, h2, h3⟩ := bk.one he him
              exact absurd ((bk.found hg he hdm him (by omega) (by omega)).mpr ⟨s, h1, h2, rfl, h3⟩) (hno b hb (metL pan s))
            · exact h
      · obtain ⟨s6, p, now, vR, vN, x5, x6, x7, dR, dN, bk, rfl⟩ := hP
        rw [List.length_reverse, List.length_dropLast, xl] at bk
        obtain ⟨hB, hEp⟩ := bk.best he hdm
        exact hk [some v1, some v2, some (.ref LA), some vR, some vN, x5, x6, x7, none, none] H' ⟨s05.trans s6, p, vR, _, _, _, _, dR, hB, hEp, rfl⟩
end
end K14
/-! repr of bools, rows, and data of any kind. -/
namespace Pr
open PySem PySem.Spec PyProof.Rows L2
def rReprB (K : PySem.W.Frag) : List V → Hp → VK → Prop := fun xs H Q => rReprN K xs H Q ∨ ∃ b : Bool, xs = [.bl b] ∧ Q (.str (PyData.shown (.bool b))) H
theorem shq_bool (b : Bool) : Shq 60 sizeLine (.bool b) := by cases b <;> exact ⟨by simp only [PyData.showable], by simp [PyData.depth], by simp only [PyData.shown]; decide⟩
theorem cr_reprB {X : Cx} {k : Nat} (gd : X.A.guards = some []) (hr : Room k X.A) : CallR X (.builtin "repr") (rReprB X.K) := by
  intro pins s σ H xs us Q I rv h
  rcases h with h | ⟨b, rfl, q⟩
  · exact cr_reprN gd hr pins s σ H xs us Q I rv h
  · exact call_reprQ gd hr pins s σ H _ us Q I rv ⟨fun _ => False, .bl b, .bool b, rfl, .bl b, shq_bool b, q⟩
theorem gv_reprB1 {K : PySem.W.Frag} {σ : L2.St} {H : Hp} {t : TE} {b : Bool} (h : Gv K t σ H (.bool b)) : Gv K (tCB (rReprB K) (tCons t tNil)) σ H (.str (PyData.shown (.bool b))) :=
  gv_cb (gva_cons h gva_nil) fun vs H1 Q s hd' q => by
    obtain ⟨v, rfl, hv⟩ := dpAll1 hd'
    cases hv
    exact .inr ⟨b, rfl, q _ _ (Same.refl _) (.str _)⟩
theorem gv_reprB {K : PySem.W.Frag} {σ : L2.St} {H : Hp} {t : TE} {d : PyData} (h : Gv K t σ H d) (hd : RepOk d) : Gv K (tCB (rReprB K) (tCons t tNil)) σ H (.str d.shown) := fun H1 s Q q =>
  gva_cons h gva_nil H1 s _ fun vs H2 s2 dv => .inl (by
    have := gv_reprN (K := K) (t := fun _ H Q => Q (vs.headD .non) H) (σ := σ) (H := H2) (d := d) (fun H3 s3 Q' q' => q' _ H3 (Same.refl _) (by obtain ⟨v, rfl, hv⟩ := dpAll1 dv; exact hv.sm s3)) hd H2 (Same.refl _) Q (fun v H' s' d' => q v H' (s2.trans s') d')
    obtain ⟨v, rfl, hv⟩ := dpAll1 dv
    exact this)

def rReprA (K : PySem.W.Frag) : List V → Hp → VK → Prop := fun xs H Q => rReprB K xs H Q ∨ rReprQ K xs H Q
theorem cr_reprA {X : Cx} {k : Nat} (gd : X.A.guards = some []) (hr : Room k X.A) : CallR X (.builtin "repr") (rReprA X.K) := by
  intro pins s σ H xs us Q I rv h
  rcases h with h | h
  · exact cr_reprB gd hr pins s σ H xs us Q I rv h
  · exact call_reprQ gd hr pins s σ H xs us Q I rv h
section
variable {K : PySem.W.Frag} {σ : L2.St} {H : Hp} {t : TE}
theorem gv_reprA1 {b : Bool} (h : Gv K t σ H (.bool b)) : Gv K (tCB (rReprA K) (tCons t tNil)) σ H (.str (PyData.shown (.bool b))) := fun H1 s Q q => h H1 s _ fun v H2 s2 dv => by
  cases dv
  exact .inl (.inr ⟨b, rfl, q _ _ s2 (.str _)⟩)
theorem gv_reprA {d : PyData} (h : Gv K t σ H d) (hd : RepOk d) : Gv K (tCB (rReprA K) (tCons t tNil)) σ H (.str d.shown) := fun H1 s Q q => by
  have := gv_reprB h hd H1 s Q q
  exact gva_cons h gva_nil H1 s _ fun vs H2 s2 dv => .inl (by
    have := gv_reprB (K := K) (t := fun _ H Q => Q (vs.headD .non) H) (σ := σ) (H := H2) (d := d) (fun H3 s3 Q' q' => q' _ H3 (Same.refl _) (by obtain ⟨v, rfl, hv⟩ := dpAll1 dv; exact hv.sm s3)) hd H2 (Same.refl _) Q (fun v H' s' d' => q v H' (s2.trans s') d')
    obtain ⟨v, rfl, hv⟩ := dpAll1 dv
    exact this)
theorem gv_reprAq {i : Nat} {v : V} {N : Addr → Prop} {d : PyData} (hi : σ[i]? = some (some v)) (h : Dq K N H v d) (hs : Shq 60 sizeLine d) : Gv K (tCB (rReprA K) (tCons (tVar i) tNil)) σ H (.str d.shown) := fun H1 s Q q =>
  ⟨v, hi, .inr ⟨N, v, d, rfl, Dq.same s _ _ h, hs, q _ H1 (Same.refl _) (.str _)⟩⟩
end
theorem rep_eff {pan : List (List Int)} (g : Good pan) (row : List Int) : RepOk (dStrs (effM pan row)) := .inr ⟨(shw_eff g row).mono (by decide) (by decide), _, .inl rfl⟩
end Pr
/-! Texts of panels and rows. -/
namespace Pr
open PySem PySem.Spec PyProof.Rows L2
def numT (x : Int) : Str := (toString x : String)
def listT (b : Int) (l : List Int) : Str := numT b ++ (">" : Str) ++ Txt.join ("," : Str) (l.map numT)
def panT (pan : List (List Int)) : Str := Txt.join (" " : Str) (pan.zipIdx.map fun x => listT (x.2 : Nat) x.1)
def rowW (row : List Int) : List Str := row.map numT ++ List.replicate (if row.length = 0 then 1 else 0) ("none" : Str)
def rowT (row : List Int) : Str := Txt.join (" " : Str) (rowW row)
def Dg (x : Int) : Prop := 0 ≤ x ∧ x < 10
theorem rowT_nil : rowT [] = ("none" : Str) := by unfold rowT rowW; rw [TL.join_eq]; rfl
theorem rowT_cons {row : List Int} (h : row ≠ []) : rowT row = Txt.join (" " : Str) (row.map numT) := by
  unfold rowT rowW
  rw [if_neg (fun e => h (List.length_eq_zero_iff.mp e)), List.replicate_zero, List.append_nil]
/-! ### how long, which signs -/
structure Sm (n : Nat) (x : Str) : Prop where
  ln : x.length ≤ n
  cs : ∀ c ∈ TL.tl x, c < 128
theorem Sm.app {n m : Nat} {x y : Str} (h : Sm n x) (g : Sm m y) : Sm (n + m) (x ++ y) := by
  refine ⟨by rw [Str.length_append]; have := h.ln; have := g.ln; omega, fun c hc => ?_⟩
  rw [TL.tl_append] at hc
  rcases List.mem_append.mp hc with h' | h'
  · exact h.cs c h'
  · exact g.cs c h'
theorem Sm.mono {n m : Nat} {x : Str} (h : Sm n x) (g : n ≤ m) : Sm m x := ⟨Nat.le_trans h.ln g, h.cs⟩
theorem sm_num {x : Int} (h : Dg x) : Sm 1 (numT x) := by
  have : ∀ n < 10, (numT ((n : Nat) : Int)).length ≤ 1 ∧ ∀ c ∈ TL.tl (numT ((n : Nat) : Int)), c < 128 := by decide +kernel
  obtain ⟨n, rfl⟩ : ∃ n : Nat, x = (n : Int) := ⟨x.toNat, (Int.toNat_of_nonneg h.1).symm⟩
  have := this n (by have := h.2; omega)
  exact ⟨this.1, this.2⟩
theorem num_cs {x : Int} (h : Dg x) : ∀ c ∈ TL.tl (numT x), 48 ≤ c ∧ c < 58 := by
  have : ∀ n < 10, ∀ c ∈ TL.tl (numT ((n : Nat) : Int)), 48 ≤ c ∧ c < 58 := by decide +kernel
  obtain ⟨n, rfl⟩ : ∃ n : Nat, x = (n : Int) := ⟨x.toNat, (Int.toNat_of_nonneg h.1).symm⟩
  exact this n (by have := h.2; omega)
theorem num_inj {x y : Int} (h : Dg x) (g : Dg y) (e : numT x = numT y) : x = y := by
  have : ∀ n < 10, ∀ m < 10, numT ((n : Nat) : Int) = numT ((m : Nat) : Int) → n = m := by decide +kernel
  obtain ⟨n, rfl⟩ : ∃ n : Nat, x = (n : Int) := ⟨x.toNat, (Int.toNat_of_nonneg h.1).symm⟩
  obtain ⟨m, rfl⟩ : ∃ n : Nat, y = (n : Int) := ⟨y.toNat, (Int.toNat_of_nonneg g.1).symm⟩
  rw [this n (by have := h.2; omega) m (by have := g.2; omega) e]
theorem num_none {x : Int} (h : Dg x) : numT x ≠ ("none" : Str) := by
  have : ∀ n < 10, numT ((n : Nat) : Int) ≠ ("none" : Str) := by decide +kernel
  obtain ⟨n, rfl⟩ : ∃ n : Nat, x = (n : Int) := ⟨x.toNat, (Int.toNat_of_nonneg h.1).symm⟩
  exact this n (by have := h.2; omega)
theorem sm_join {y : Str} (hy : Sm 1 y) {k : Nat} : ∀ {parts : List Str}, (∀ p ∈ parts, Sm k p) → Sm (parts.length * (k + 1)) (Txt.join y parts)
  | [], _ => by rw [TL.join_eq]; exact ⟨Nat.zero_le _, fun c hc => by cases hc⟩
  | [p], h => by rw [TL.join_eq]; exact (h p List.mem_cons_self).mono (by show k ≤ 1 * (k + 1); omega)
  | p :: q :: r, h => by
    have ih := sm_join hy (parts := q :: r) fun z hz => h z (List.mem_cons_of_mem _ hz)
    rw [TL.join_eq] at ih ⊢
    refine (((h p List.mem_cons_self).app hy).app ih).mono ?_
    show k + 1 + (r.length + 1) * (k + 1) ≤ (r.length + 1 + 1) * (k + 1)
    rw [Nat.succ_mul (r.length + 1) (k + 1)]; omega
theorem sm_list {b : Int} {l : List Int} (hb : Dg b) (hl : ∀ x ∈ l, Dg x) : Sm (l.length * 2 + 2) (listT b l) := by
  unfold listT
  have h1 : Sm 1 (">" : Str) := ⟨by decide +kernel, by decide +kernel⟩
  have h2 : Sm 1 ("," : Str) := ⟨by decide +kernel, by decide +kernel⟩
  refine (((sm_num hb).app h1).app (sm_join h2 (k := 1) fun p hp => ?_)).mono (by rw [List.length_map]; omega)
  obtain ⟨x, hx, rfl⟩ := List.mem_map.mp hp
  exact sm_num (hl x hx)
theorem sm_row {row : List Int} (h : ∀ x ∈ row, Dg x) : Sm ((row.length + 1) * 5) (rowT row) := by
  unfold rowT
  refine (sm_join ⟨by decide +kernel, by decide +kernel⟩ (k := 4) fun p hp => ?_).mono ?_
  · unfold rowW at hp
    rcases List.mem_append.mp hp with hp | hp
    · obtain ⟨x, hx, rfl⟩ := List.mem_map.mp hp
      exact (sm_num (h x hx)).mono (by decide)
    · rw [List.eq_of_mem_replicate hp]
      exact ⟨by decide +kernel, by decide +kernel⟩
  · unfold rowW
    rw [List.length_append, List.length_map, List.length_replicate]
    refine Nat.mul_le_mul_right _ ?_
    split <;> omega
structure OkT (pan : List (List Int)) : Prop where
  few : pan.length ≤ 10
  sh : ∀ l ∈ pan, l.length ≤ 60
  dg : ∀ l ∈ pan, ∀ x ∈ l, Dg x
theorem Good.okT {pan : List (List Int)} (g : Good pan) : OkT pan := by
  have few := g.few
  refine ⟨few, fun l hl => ?_, fun l hl x hx => ?_⟩
  · have := pw_length (n := 10) (lo := 0) (g.up l hl) fun x hx => by have := g.rng l hl x hx; omega
    omega
  · have := g.rng l hl x hx
    exact ⟨this.1, by omega⟩
theorem zip_ix {pan : List (List Int)} {x : List Int × Nat} (h : x ∈ pan.zipIdx) : x.2 < pan.length ∧ x.1 ∈ pan := by
  obtain ⟨h1, h2, h3⟩ := List.mem_zipIdx h
  exact ⟨by omega, by rw [h3]; exact List.getElem_mem _⟩
theorem sm_pan {pan : List (List Int)} (g : OkT pan) : Sm 1230 (panT pan) := by
  unfold panT
  have few := g.few
  refine (sm_join ⟨by decide +kernel, by decide +kernel⟩ (k := 122) fun p hp => ?_).mono ?_
  · obtain ⟨x, hx, rfl⟩ := List.mem_map.mp hp
    have hz := zip_ix hx
    refine (sm_list ⟨by omega, by omega⟩ (g.dg _ hz.2)).mono ?_
    have := g.sh _ hz.2
    omega
  · rw [List.length_map, List.length_zipIdx]
    show _ * 123 ≤ _
    omega
theorem tl_mem {x : Str} {c : Nat} (h : c ∈ x.cps.toList) : c ∈ TL.tl x := h
theorem shq_str {n : Nat} {x : Str} (h : Sm n x) (hn : n ≤ 5000) : Shq 0 (10 * n + 2) (.str x) := by
  refine ⟨by simp only [PyData.showable], by simp [PyData.depth], ?_⟩
  simp only [PyData.shown]
  refine Nat.le_trans (StrLaws.reprText_len x fun c hc => Nat.lt_trans (h.cs c (tl_mem hc)) (by decide)) ?_
  have := h.ln
  omega
theorem shw_str {n : Nat} {x : Str} (h : Sm n x) (hn : n ≤ 5000) : Shw 0 (10 * n + 2) (.str x) := ⟨(shq_str h hn).sh, by simp only [PyData.hasDict], (shq_str h hn).dp, (shq_str h hn).ln⟩
/-! ### different texts -/
theorem join_inj {y : Str} {s : Nat} {S : List Nat} (ey : TL.tl y = s :: S) (hk : y.cps.all (· < 256) = true) {p q : List Str} (np : p ≠ []) (nq : q ≠ []) (hp : ∀ x ∈ p, s ∉ TL.tl x) (hq : ∀ x ∈ q, s ∉ TL.tl x) (e : Txt.join y p = Txt.join y q) : p = q := by
  have h1 := TL.split_join ey hk np hp
  have h2 := TL.split_join ey hk nq hq
  rw [← h1, ← h2, e]
theorem nums_inj : ∀ {l m : List Int}, (∀ x ∈ l, Dg x) → (∀ x ∈ m, Dg x) → l.map numT = m.map numT → l = m
  | [], [], _, _, _ => rfl
  | [], _ :: _, _, _, e => by cases e
  | _ :: _, [], _, _, e => by cases e
  | x :: l, y :: m, h, g, e => by
    rw [List.map_cons, List.map_cons] at e
    obtain ⟨e1, e2⟩ := List.cons.inj e
    rw [num_inj (h x List.mem_cons_self) (g y List.mem_cons_self) e1, nums_inj (fun z hz => h z (List.mem_cons_of_mem _ hz)) (fun z hz => g z (List.mem_cons_of_mem _ hz)) e2]
theorem rowW_ne (row : List Int) : rowW row ≠ [] := by
  unfold rowW
  cases row with
  | nil => simp
  | cons x r => simp
theorem rowW_sp {row : List Int} (h : ∀ x ∈ row, Dg x) : ∀ w ∈ rowW row, 32 ∉ TL.tl w := by
  intro w hw
  unfold rowW at hw
  rcases List.mem_append.mp hw with hp | hp
  · obtain ⟨x, hx, rfl⟩ := List.mem_map.mp hp
    intro hc
    have := num_cs (h x hx) _ hc
    omega
  · rw [List.eq_of_mem_replicate hp]; decide +kernel
theorem rowW_inj {l m : List Int} (h : ∀ x ∈ l, Dg x) (g : ∀ x ∈ m, Dg x) (e : rowW l = rowW m) : l = m := by
  cases l with
  | nil =>
    cases m with
    | nil => rfl
    | cons y m =>
      exfalso
      have : ("none" : Str) = numT y := (List.cons.inj (show ("none" : Str) :: [] = numT y :: _ from e)).1
      exact num_none (g y List.mem_cons_self) this.symm
  | cons x l =>
    cases m with
    | nil =>
      exfalso
      have : numT x = ("none" : Str) := (List.cons.inj (show numT x :: _ = ("none" : Str) :: [] from e)).1
      exact num_none (h x List.mem_cons_self) this
    | cons y m =>
      unfold rowW at e
      rw [if_neg (by simp), if_neg (by simp), List.replicate_zero, List.append_nil, List.append_nil] at e
      exact nums_inj h g e
theorem rowT_inj {l m : List Int} (h : ∀ x ∈ l, Dg x) (g : ∀ x ∈ m, Dg x) : rowT l = rowT m ↔ l = m := by
  refine ⟨fun e => ?_, fun e => by rw [e]⟩
  exact rowW_inj h g (join_inj (y := (" " : Str)) (s := 32) (S := []) (by decide +kernel) (by decide +kernel) (rowW_ne l) (rowW_ne m) (rowW_sp h) (rowW_sp g) e)
theorem join_com {l : List Int} (h : ∀ x ∈ l, Dg x) : ∀ c ∈ TL.tl (Txt.join ("," : Str) (l.map numT)), (48 ≤ c ∧ c < 58) ∨ c = 44 := by
  induction l with
  | nil => rw [TL.join_eq]; intro c hc; cases hc
  | cons x l ih =>
    cases l with
    | nil => rw [TL.join_eq]; intro c hc; exact .inl (num_cs (h x List.mem_cons_self) c hc)
    | cons y l =>
      have ih := ih fun z hz => h z (List.mem_cons_of_mem _ hz)
      rw [TL.join_eq] at ih ⊢
      intro c hc
      have e : Str.join ("," : Str) ((x :: y :: l).map numT) = numT x ++ ("," : Str) ++ Str.join ("," : Str) ((y :: l).map numT) := rfl
      rw [e, TL.tl_append, TL.tl_append] at hc
      rcases List.mem_append.mp hc with hc | hc
      · rcases List.mem_append.mp hc with hc | hc
        · exact .inl (num_cs (h x List.mem_cons_self) c hc)
        · have : TL.tl ("," : Str) = [44] := by decide +kernel
          rw [this] at hc
          exact .inr (List.mem_singleton.mp hc)
      · exact ih c hc
theorem tl_inj {x y : Str} (h : TL.tl x = TL.tl y) : x = y := by
  cases x; cases y
  exact congrArg Str.mk (Array.toList_inj.mp h)
theorem num_tl {x : Int} (h : Dg x) : ∃ c, TL.tl (numT x) = [c] := by
  have : ∀ n < 10, (TL.tl (numT ((n : Nat) : Int))).length = 1 := by decide +kernel
  obtain ⟨n, rfl⟩ : ∃ n : Nat, x = (n : Int) := ⟨x.toNat, (Int.toNat_of_nonneg h.1).symm⟩
  exact List.length_eq_one_iff.mp (this n (by have := h.2; omega))
theorem joinC_inj {l m : List Int} (h : ∀ x ∈ l, Dg x) (g : ∀ x ∈ m, Dg x) (e : Txt.join ("," : Str) (l.map numT) = Txt.join ("," : Str) (m.map numT)) : l = m := by
  have sp : ∀ {l : List Int}, (∀ x ∈ l, Dg x) → ∀ w ∈ l.map numT, 44 ∉ TL.tl w := fun {l} h w hw hc => by
    obtain ⟨x, hx, rfl⟩ := List.mem_map.mp hw
    have := num_cs (h x hx) _ hc
    omega
  have em : ∀ {y : Int} {m : List Int}, Dg y → TL.tl (Txt.join ("," : Str) ((y :: m).map numT)) ≠ [] := fun {y m} hy hn => by
    obtain ⟨c, hc⟩ := num_tl hy
    rw [TL.join_eq] at hn
    cases m with
    | nil =>
      rw [show TL.tl (Str.join ("," : Str) (([y] : List Int).map numT)) = TL.tl (numT y) from rfl, hc] at hn; cases hn
    | cons z m =>
      rw [show Str.join ("," : Str) ((y :: z :: m).map numT) = numT y ++ ("," : Str) ++ Str.join ("," : Str) ((z :: m).map numT) from rfl, TL.tl_append, TL.tl_append, hc] at hn
      cases hn
  cases l with
  | nil =>
    cases m with
    | nil => rfl
    | cons y m => exfalso; refine em (g y List.mem_cons_self) (m := m) ?_; rw [← e, TL.join_eq]; rfl
  | cons x l =>
    cases m with
    | nil => exfalso; refine em (h x List.mem_cons_self) (m := l) ?_; rw [e, TL.join_eq]; rfl
    | cons y m => exact nums_inj h g (join_inj (y := ("," : Str)) (s := 44) (S := []) (by decide +kernel) (by decide +kernel) (by simp) (by simp) (sp h) (sp g) e)
theorem listT_inj {b : Int} {l m : List Int} (h : ∀ x ∈ l, Dg x) (g : ∀ x ∈ m, Dg x) (e : listT b l = listT b m) : l = m := by
  unfold listT at e
  have e2 := congrArg TL.tl e
  rw [TL.tl_append, TL.tl_append (numT b ++ (">" : Str))] at e2
  exact joinC_inj h g (tl_inj (List.append_cancel_left e2))
theorem listT_sp {b : Int} {l : List Int} (hb : Dg b) (h : ∀ x ∈ l, Dg x) : 32 ∉ TL.tl (listT b l) := by
  unfold listT
  rw [TL.tl_append, TL.tl_append]
  intro hc
  rcases List.mem_append.mp hc with hc | hc
  · rcases List.mem_append.mp hc with hc | hc
    · have := num_cs hb _ hc; omega
    · have : TL.tl (">" : Str) = [62] := by decide +kernel
      rw [this] at hc
      cases List.mem_singleton.mp hc
  · rcases join_com h _ hc with h' | h' <;> omega
theorem listsT_inj : ∀ {p q : List (List Int)} {k : Nat}, (∀ l ∈ p, ∀ x ∈ l, Dg x) → (∀ l ∈ q, ∀ x ∈ l, Dg x) → ((p.zipIdx k).map fun x => listT (x.2 : Nat) x.1) = ((q.zipIdx k).map fun x => listT (x.2 : Nat) x.1) → p = q
  | [], [], _, _, _, _ => rfl
  | [], _ :: _, _, _, _, e => by cases e
  | _ :: _, [], _, _, _, e => by cases e
  | x :: l, y :: m, k, h, g, e => by
    rw [List.zipIdx_cons, List.zipIdx_cons, List.map_cons, List.map_cons] at e
    obtain ⟨e1, e2⟩ := List.cons.inj e
    rw [listT_inj (h x List.mem_cons_self) (g y List.mem_cons_self) e1, listsT_inj (fun z hz => h z (List.mem_cons_of_mem _ hz)) (fun z hz => g z (List.mem_cons_of_mem _ hz)) e2]
theorem panT_inj {p q : List (List Int)} (hp : OkT p) (hq : OkT q) (np : p ≠ []) (nq : q ≠ []) : panT p = panT q ↔ p = q := by
  refine ⟨fun e => ?_, fun e => by rw [e]⟩
  have sp : ∀ {p : List (List Int)}, OkT p → ∀ w ∈ (p.zipIdx.map fun x => listT (x.2 : Nat) x.1), 32 ∉ TL.tl w := fun {p} h w hw => by
    obtain ⟨x, hx, rfl⟩ := List.mem_map.mp hw
    have hz := zip_ix hx
    have := h.few
    exact listT_sp ⟨by omega, by omega⟩ (h.dg _ hz.2)
  have ne : ∀ {p : List (List Int)}, p ≠ [] → (p.zipIdx.map fun x => listT (x.2 : Nat) x.1) ≠ [] := fun {p} h e => h (by
    have := congrArg List.length e
    rw [List.length_map, List.length_zipIdx] at this
    exact List.length_eq_zero_iff.mp this)
  exact listsT_inj hp.dg hq.dg (join_inj (y := (" " : Str)) (s := 32) (S := []) (by decide +kernel) (by decide +kernel) (ne np) (ne nq) (sp hp) (sp hq) e)
/-! ### the terms -/
def rStrI : List V → Hp → VK → Prop := fun xs H Q => ∃ i, xs = [.int i] ∧ i.natAbs.log2 < 1920 ∧ Q (.str (toString i)) H
section
variable {K : PySem.W.Frag} {σ : L2.St} {H : Hp} {t ta tb te : TE}
theorem gv_reprS {n : Nat} {x : Str} (h : Gv K t σ H (.str x)) (hs : Sm n x) (hn : n ≤ 5000) : Gv K (tCB (rReprA K) (tCons t tNil)) σ H (.str (PyData.shown (.str x))) := fun H1 s Q q => h H1 s _ fun v H2 s2 dv => by
  cases dv
  refine .inr ⟨fun _ => False, _, .str x, rfl, .str x, (shq_str hs hn).mono (by decide) ?_, q _ _ s2 (.str _)⟩
  exact Nat.le_of_lt (small5 (by omega))
theorem gv_numT {x : Int} (h : Gv K te σ H (.int x)) (hx : Dg x) : Gv K (tCB rStrI (tCons te tNil)) σ H (.str (numT x)) := gv_cb (gva_cons h gva_nil) fun vs H1 Q s hd' q => by
  obtain ⟨v, rfl, hv⟩ := dpAll1 hd'
  cases hv
  refine ⟨_, rfl, ?_, q _ _ (Same.refl _) (.str _)⟩
  have : ∀ n < 10, (((n : Nat) : Int)).natAbs.log2 < 1920 := by decide +kernel
  obtain ⟨n, rfl⟩ : ∃ n : Nat, x = (n : Int) := ⟨x.toNat, (Int.toNat_of_nonneg hx.1).symm⟩
  exact this n (by have := hx.2; omega)
theorem gv_addS {x y : Str} (ha : Gv K ta σ H (.str x)) (hb : Gv K tb σ H (.str y)) (hl : x.length + y.length ≤ 100000) {r : R2} (hr : r = fun x y H Q => ∃ i j, x = .str i ∧ y = .str j ∧ i.length + j.length ≤ sizeLine ∧ Q (.str (i ++ j)) H) : Gv K (tOp r ta tb) σ H (.str (x ++ y)) := by
  subst hr
  refine gv_op2 ha hb fun u v H1 Q s hx hy q => ?_
  cases hx; cases hy
  exact ⟨_, _, rfl, rfl, Nat.le_of_lt (small5 hl), q _ _ (Same.refl _) (.str _)⟩
theorem dpAll_strJ : ∀ {vs : List V} {l : List Str}, DpAll K H vs (l.map PyData.str) → vs = l.map V.str := fun {vs l} h => dpAll_strsV h
theorem gv_joinT {td tl : TE} {a : Str} {ys : List Str} {n : Nat} (h1 : Gv K td σ H (.str a)) (h2 : Gv K tl σ H (.list (ys.map PyData.str))) (hy : ∀ y ∈ ys, y.length ≤ 200) (hl : ys.length ≤ 100) (ha : a.length ≤ 1) {r : V → List V → Hp → VK → Prop}
    (hr : r = fun x xs H Q => ∃ a p, ∃ ys : List Str, x = .str a ∧ xs = [.ref p] ∧ (SqL K H p (ys.map V.str) ∨ SqT K H p (ys.map V.str)) ∧ (ys.map (·.length)).sum + ys.length * a.length ≤ 16777216 ∧ Q (.str (Txt.join a ys)) H) :
    Gv K (tM1 r td tl) σ H (.str (Txt.join a ys)) := fun H1 s Q q => h1 H1 s _ fun v H2 s2 d2 => by
  subst hr
  cases d2
  refine ⟨⟨_, rfl⟩, h2 H2 (s.trans s2) _ fun w H3 s3 d3 => ?_⟩
  obtain ⟨p, xs, rfl, hp, hr⟩ := d3.lstI
  rw [dpAll_strJ hr] at hp
  refine ⟨_, p, ys, rfl, rfl, .inl hp, ?_, q _ H3 (s2.trans s3) (.str _)⟩
  have h3 : ∀ {ys : List Str}, (∀ y ∈ ys, y.length ≤ 200) → (ys.map (·.length)).sum ≤ ys.length * 200 := fun {ys} => by
    induction ys with
    | nil => intro _; exact Nat.le_refl _
    | cons x r ih =>
      intro h
      have a1 := h x List.mem_cons_self
      have a2 := ih fun z hz => h z (List.mem_cons_of_mem _ hz)
      rw [List.map_cons, List.sum_cons, List.length_cons]; omega
  have h4 := h3 hy
  have h5 : ys.length * a.length ≤ 100 * 1 := Nat.mul_le_mul hl ha
  omega
theorem gvt_truT {ds : List PyData} {r : TT} (h : Gv K t σ H (.tuple ds)) (hr : r = fun σ H Q => t σ H fun x H' => ∃ k, TruV K x H' k ∧ Q k H') : GvT r σ H (!ds.isEmpty) := fun H1 s Q q => by
  subst hr
  refine h H1 s _ fun v H2 s2 dv => ?_
  obtain ⟨a, xs, rfl, hq, hr⟩ := dv.tupI
  refine ⟨_, .inr (.inl ⟨xs, hq, rfl⟩), ?_⟩
  have : xs.isEmpty = ds.isEmpty := by cases hr <;> rfl
  rw [this]; exact q _ s2
/-- f"{x}>" -/
theorem gv_fnum {x : Int} {y : Str} (h : Gv K te σ H (.int x)) (hx : Dg x) (hy : y.length ≤ 100) {t : TE} (ht : t = fun σ H Q => tJs [tFmt te, tC (.str y)] Str.empty σ H fun out H1 => Q (.str out) H1) : Gv K t σ H (.str (numT x ++ y)) := fun H1 s Q q => by
  subst ht
  refine h H1 s _ fun v H2 s2 dv => ?_
  cases dv
  have l1 := (sm_num hx).ln
  have this : ∀ n < 10, (((n : Nat) : Int)).natAbs.log2 < 1920 := by decide +kernel
  refine .inr ⟨x, rfl, ?_, numT x, rfl, ?_, y, rfl, ?_, ?_⟩
  · obtain ⟨n, rfl⟩ : ∃ n : Nat, x = (n : Int) := ⟨x.toNat, (Int.toNat_of_nonneg hx.1).symm⟩
    exact this n (by have := hx.2; omega)
  · rw [Str.empty_append]; exact Nat.le_of_lt (small5 (by omega))
  · rw [Str.empty_append, Str.length_append]; exact Nat.le_of_lt (small5 (by omega))
  · have := q (.str (numT x ++ y)) H2 s2 (.str _)
    rw [Str.empty_append]; exact this
end
end Pr
/-! Values of all kinds that outlive what changes the objects of a set X. -/
namespace Pr
open PySem PySem.Spec PyProof.Rows L2
/-- every object but those of X is kept -/
def Per (X : Addr → Prop) (H H' : Hp) : Prop := ∀ b o, ¬ X b → H b = some o → H' b = some o
theorem Per.refl (X : Addr → Prop) (H : Hp) : Per X H H := fun _ _ _ e => e
theorem Per.trans {X : Addr → Prop} {H H1 H2 : Hp} (p : Per X H H1) (p2 : Per X H1 H2) : Per X H H2 := fun b o hb e => p2 b o hb (p b o hb e)
theorem Per.of {X : Addr → Prop} {H H' : Hp} (s : Same H H') : Per X H H' := fun b o _ e => s b o e
theorem Per.but {X : Addr → Prop} {H H' : Hp} {a c : Addr} (xa : X a) (xc : X c) (s : But a c H H') : Per X H H' := fun b o hb e => s b o (fun z => hb (by rw [z]; exact xa)) (fun z => hb (by rw [z]; exact xc)) e
/-- a value: its data for every later heap that keeps all but X; it may be shown; a text is not long -/
structure VW (K : PySem.W.Frag) (X : Addr → Prop) (H : Hp) (v : V) (d : PyData) : Prop where
  dq : ∀ H', Per X H H' → Dq K (fun _ => False) H' v d
  sh : Shq 60 sizeLine d
  st : ∀ x, d = .str x → Sm 600 x
section
variable {K : PySem.W.Frag} {X : Addr → Prop} {H H' : Hp} {v : V} {d : PyData} {b : Addr} {vs : List V} {ds : List PyData}
theorem VW.per (h : VW K X H v d) (p : Per X H H') : VW K X H' v d := ⟨fun H2 p2 => h.dq H2 (p.trans p2), h.sh, h.st⟩
theorem vw_of (hd : ∀ H', Dq K (fun _ => False) H' v d) (lo : Low d) (ns : ∀ x, d ≠ .str x) : VW K X H v d := ⟨fun H' _ => hd H', lo.shq.mono (by decide) (by decide), fun x e => absurd e (ns x)⟩
theorem vw_tup (hb : ¬ X b) (e : H b = some (.tup vs)) (hv : ∀ H', Per X H H' → DqAll K (fun _ => False) H' vs ds) (sh : Shq 60 sizeLine (.tuple ds)) : VW K X H (.ref b) (.tuple ds) :=
  ⟨fun H' p => .tup (.inl (.inl (p _ _ hb e))) (hv H' p), sh, fun x z => by cases z⟩
theorem vw_lst (hb : ¬ X b) (e : H b = some (.lst vs)) (s : b ≠ sysModules) (hv : ∀ H', Per X H H' → DqAll K (fun _ => False) H' vs ds) (sh : Shq 60 sizeLine (.list ds)) : VW K X H (.ref b) (.list ds) :=
  ⟨fun H' p => .lst s (fun z => z) (p _ _ hb e) (hv H' p), sh, fun x z => by cases z⟩
theorem vw_dct0 (hb : ¬ X b) (e : H b = some (.dK [])) : VW K X H (.ref b) (.dict []) :=
  ⟨fun H' p => .dct0 (p _ _ hb e), Low.shq (d := .dict []) (show lowB _ = true by decide +kernel) |>.mono (by decide) (by decide), fun x z => by cases z⟩
theorem vw_dct1 {x : Str} {i : Int} (hb : ¬ X b) (e : H b = some (.dK [(Sum.inr x, .int i)])) (sh : Shq 60 sizeLine (.dict [(.str x, .int i)])) : VW K X H (.ref b) (.dict [(.str x, .int i)]) :=
  ⟨fun H' p => .dct1 (p _ _ hb e), sh, fun x z => by cases z⟩
theorem vw_str {n : Nat} {x : Str} (h : Sm n x) (hn : n ≤ 600) : VW K X H (.str x) (.str x) := ⟨fun H' _ => .str x, (shq_str h (by omega)).mono (by decide) (by rw [sizeLine_eq]; omega), fun y e => by injection e with e; rw [← e]; exact h.mono hn⟩
/-- a list of such values -/
def VWs (K : PySem.W.Frag) (X : Addr → Prop) (H : Hp) (vs : List V) : Prop := ∀ v ∈ vs, ∃ d, VW K X H v d
theorem VWs.per (h : VWs K X H vs) (p : Per X H H') : VWs K X H' vs := fun v hv => let ⟨d, w⟩ := h v hv; ⟨d, w.per p⟩
theorem VWs.app {us : List V} (h : VWs K X H vs) (g : VWs K X H us) : VWs K X H (vs ++ us) := fun v hv => (List.mem_append.mp hv).elim (h v) (g v)
end
end Pr
/-! PrShwIn: texts of tuples of a few known things tell them apart. -/
namespace Pr
open PySem
def cp (x : Str) : List Nat := x.cps.toList
theorem cp_app (a b : Str) : cp (a ++ b) = cp a ++ cp b := by unfold cp; rw [Str.cps_append, Array.toList_append]
theorem cp_inj {a b : Str} (h : a = b) : cp a = cp b := by rw [h]
/-- the texts behind "(" -/
def gT : List (List Nat) → List Nat
  | [] => [41]
  | [x] => x ++ [41]
  | x :: r => x ++ 44 :: 32 :: gT r
def bT : List (List Nat) → List Nat
  | [] => [41]
  | [x] => x ++ [44, 41]
  | r => gT r
theorem cp_join : ∀ ts : List Str, ts ≠ [] → cp (Str.join ", " ts) ++ [41] = gT (ts.map cp)
  | [], h => absurd rfl h
  | [x], _ => rfl
  | x :: y :: r, _ => by
    have ih := cp_join (y :: r) (by simp)
    show cp (x ++ ", " ++ Str.join ", " (y :: r)) ++ [41] = cp x ++ 44 :: 32 :: gT ((y :: r).map cp)
    rw [cp_app, cp_app, ← ih, List.append_assoc, List.append_assoc]
    rfl
theorem cp_tuple (ts : List Str) : cp (tupleText ts) = 40 :: bT (ts.map cp) := by
  unfold tupleText
  rw [cp_app, cp_app]
  match ts with
  | [] => rfl
  | [x] => show 40 :: (cp x ++ [44, 41]) = _; rfl
  | x :: y :: r =>
    have := cp_join (x :: y :: r) (by simp)
    have e : (if (x :: y :: r).length == 1 then ",)" else ")" : String) = ")" := if_neg (by simp)
    rw [e, List.append_assoc, show cp (")" : String) = [41] from rfl, this]
    rfl
/-- no text of S begins another; none is empty or begins with ")" -/
structure Pfx (S : List PyData) : Prop where
  cut : ∀ x ∈ S, ∀ y ∈ S, ∀ (c c' : Nat) (r r' : List Nat), (c = 44 ∨ c = 41) → (c' = 44 ∨ c' = 41) → cp x.shown ++ c :: r = cp y.shown ++ c' :: r' → x = y
  hd : ∀ x ∈ S, ∃ a l, cp x.shown = a :: l ∧ a ≠ 41
section
variable {S : List PyData} (P : Pfx S)
include P
theorem Pfx.g : ∀ {ds es : List PyData}, (∀ x ∈ ds, x ∈ S) → (∀ x ∈ es, x ∈ S) → ds ≠ [] → es ≠ [] → gT (ds.map fun d => cp d.shown) = gT (es.map fun d => cp d.shown) → ds = es
  | [], _, _, _, h, _, _ => absurd rfl h
  | _, [], _, _, _, h, _ => absurd rfl h
  | [x], [y], hd, he, _, _, e => by
    rw [P.cut x (hd x List.mem_cons_self) y (he y List.mem_cons_self) 41 41 [] [] (.inr rfl) (.inr rfl) e]
  | [x], y :: z :: r, hd, he, _, _, e => by
    have e1 : cp x.shown ++ 41 :: [] = cp y.shown ++ 44 :: (32 :: gT ((z :: r).map fun d => cp d.shown)) := e
    have := P.cut x (hd x List.mem_cons_self) y (he y List.mem_cons_self) 41 44 _ _ (.inr rfl) (.inl rfl) e1
    subst this
    have := List.append_cancel_left e1
    cases this
  | x :: z :: r, [y], hd, he, _, _, e => by
    have e1 : cp x.shown ++ 44 :: (32 :: gT ((z :: r).map fun d => cp d.shown)) = cp y.shown ++ 41 :: [] := e
    have := P.cut x (hd x List.mem_cons_self) y (he y List.mem_cons_self) 44 41 _ _ (.inl rfl) (.inr rfl) e1
    subst this
    have := List.append_cancel_left e1
    cases this
  | x :: x' :: r, y :: y' :: r', hd, he, _, _, e => by
    have e1 : cp x.shown ++ 44 :: (32 :: gT ((x' :: r).map fun d => cp d.shown)) = cp y.shown ++ 44 :: (32 :: gT ((y' :: r').map fun d => cp d.shown)) := e
    have := P.cut x (hd x List.mem_cons_self) y (he y List.mem_cons_self) 44 44 _ _ (.inl rfl) (.inl rfl) e1
    subst this
    have e2 := List.append_cancel_left e1
    injection e2 with _ e2
    injection e2 with _ e2
    rw [Pfx.g (ds := x' :: r) (es := y' :: r') (fun z hz => hd z (List.mem_cons_of_mem _ hz)) (fun z hz => he z (List.mem_cons_of_mem _ hz)) (by simp) (by simp) e2]
theorem Pfx.b {ds es : List PyData} (hd : ∀ x ∈ ds, x ∈ S) (he : ∀ x ∈ es, x ∈ S) (e : bT (ds.map fun d => cp d.shown) = bT (es.map fun d => cp d.shown)) : ds = es := by
  have no : ∀ {x : PyData} {t : List Nat}, x ∈ S → [41] = cp x.shown ++ t → False := fun hx h => by
    obtain ⟨a, l, e1, ne⟩ := P.hd _ hx
    rw [e1] at h
    injection h with h
    exact ne h.symm
  match ds, es with
  | [], [] => rfl
  | [], [y] => exact (no (t := [44, 41]) (he y List.mem_cons_self) e).elim
  | [], y :: z :: r => exact (no (t := 44 :: 32 :: gT ((z :: r).map fun d : PyData => cp d.shown)) (he y List.mem_cons_self) e).elim
  | [x], [] => exact (no (t := [44, 41]) (hd x List.mem_cons_self) e.symm).elim
  | x :: z :: r, [] => exact (no (t := 44 :: 32 :: gT ((z :: r).map fun d : PyData => cp d.shown)) (hd x List.mem_cons_self) e.symm).elim
  | [x], [y] => rw [P.cut x (hd x List.mem_cons_self) y (he y List.mem_cons_self) 44 44 [41] [41] (.inl rfl) (.inl rfl) e]
  | [x], y :: z :: r =>
    have e1 : cp x.shown ++ 44 :: [41] = cp y.shown ++ 44 :: (32 :: gT ((z :: r).map fun d => cp d.shown)) := e
    have := P.cut x (hd x List.mem_cons_self) y (he y List.mem_cons_self) 44 44 _ _ (.inl rfl) (.inl rfl) e1
    subst this
    have := List.append_cancel_left e1
    cases this
  | x :: z :: r, [y] =>
    have e1 : cp x.shown ++ 44 :: (32 :: gT ((z :: r).map fun d => cp d.shown)) = cp y.shown ++ 44 :: [41] := e
    have := P.cut x (hd x List.mem_cons_self) y (he y List.mem_cons_self) 44 44 _ _ (.inl rfl) (.inl rfl) e1
    subst this
    have := List.append_cancel_left e1
    cases this
  | x :: x' :: r, y :: y' :: r' => exact P.g hd he (by simp) (by simp) e
theorem Pfx.tup {ds es : List PyData} (hd : ∀ x ∈ ds, x ∈ S) (he : ∀ x ∈ es, x ∈ S) (e : (PyData.tuple ds).shown = (PyData.tuple es).shown) : ds = es := by
  have all : ∀ ds : List PyData, PyData.shownAll ds = ds.map PyData.shown := fun ds => by
    induction ds with
    | nil => rfl
    | cons d r ih => simp only [PyData.shownAll, List.map_cons, ih]
  simp only [PyData.shown] at e
  have e := cp_inj e
  rw [cp_tuple, cp_tuple, all, all, List.map_map, List.map_map] at e
  injection e with _ e
  exact P.b hd he e
end
def pfxB (S : List PyData) : Bool :=
  (List.range S.length).all fun i => (List.range S.length).all fun j => decide (i = j) ||
    [44, 41].all fun c => [44, 41].all fun c' => !((cp (S.getD i .none).shown ++ [c]).isPrefixOf (cp (S.getD j .none).shown ++ [c']))
def hdB (S : List PyData) : Bool := S.all fun x => match cp x.shown with | [] => false | a :: _ => decide (a ≠ 41)
theorem pfx_of {S : List PyData} (h1 : pfxB S = true) (h2 : hdB S = true) : Pfx S := by
  have one : ∀ (i j c c' : Nat), i < S.length → j < S.length → i ≠ j → (c = 44 ∨ c = 41) → (c' = 44 ∨ c' = 41) → ¬ (cp (S.getD i .none).shown ++ [c]) <+: (cp (S.getD j .none).shown ++ [c']) := fun i j c c' hi hj ne hc hc' => by
    have h1 := List.all_eq_true.mp h1 i (List.mem_range.mpr hi)
    have h1 := List.all_eq_true.mp h1 j (List.mem_range.mpr hj)
    rw [decide_eq_false ne, Bool.false_or] at h1
    have h1 := List.all_eq_true.mp h1 c (by rcases hc with rfl | rfl <;> simp)
    have h1 := List.all_eq_true.mp h1 c' (by rcases hc' with rfl | rfl <;> simp)
    intro hp
    rw [List.isPrefixOf_iff_prefix.mpr hp] at h1
    cases h1
  refine ⟨fun x hx y hy c c' r r' hc hc' e => ?_, fun x hx => ?_⟩
  · obtain ⟨i, hi⟩ := List.getElem?_of_mem hx
    obtain ⟨j, hj⟩ := List.getElem?_of_mem hy
    have li := (List.getElem?_eq_some_iff.mp hi).1
    have lj := (List.getElem?_eq_some_iff.mp hj).1
    have ei : S.getD i .none = x := by rw [List.getD_eq_getElem?_getD, hi]; rfl
    have ej : S.getD j .none = y := by rw [List.getD_eq_getElem?_getD, hj]; rfl
    by_cases ne : i = j
    · subst ne; rw [← ei, ej]
    · exfalso
      have p1 : (cp x.shown ++ [c]) <+: (cp x.shown ++ c :: r) := ⟨r, by rw [List.append_assoc]; rfl⟩
      have p2 : (cp y.shown ++ [c']) <+: (cp x.shown ++ c :: r) := ⟨r', by rw [e, List.append_assoc]; rfl⟩
      rcases List.prefix_or_prefix_of_prefix p1 p2 with h | h
      · have := one i j c c' li lj ne hc hc'
        rw [ei, ej] at this
        exact this h
      · have := one j i c' c lj li (fun z => ne z.symm) hc' hc
        rw [ei, ej] at this
        exact this h
  · have := List.all_eq_true.mp h2 x hx
    revert this
    generalize cp x.shown = l
    intro this
    match l with
    | [] => cases this
    | a :: l => exact ⟨a, l, rfl, of_decide_eq_true this⟩
theorem list_hd (ds : List PyData) : ∃ l, cp (PyData.list ds).shown = 91 :: l := by
  have from_ : ∀ (ts : List Str) (k : Nat) (acc : Str) (a : Nat) (l : List Nat), cp acc = a :: l → ∃ l', cp (textFrom k acc ts) = a :: l' := by
    intro ts
    induction ts with
    | nil => intro k acc a l h; exact ⟨l, h⟩
    | cons t r ih =>
      intro k acc a l h
      exact ih (k + 1) _ a _ (by rw [cp_app, cp_app, h]; rfl)
  simp only [PyData.shown]
  unfold listText
  obtain ⟨l, h⟩ := from_ (PyData.shownAll ds) 0 "[" 91 [] rfl
  exact ⟨l ++ cp ("]" : Str), by rw [cp_app, h]; rfl⟩
theorem tup_hd (ds : List PyData) : ∃ l, cp (PyData.tuple ds).shown = 40 :: l := by
  simp only [PyData.shown]
  exact ⟨_, cp_tuple _⟩
end Pr
namespace Pr
open PySem
/-! the values of k14 -/
def w3 : List PyData := [.str "on", .str "off", .str "same"]
def odd14 : List PyData := [.none, .bool true, .bool false, .int 0, .int 1, .int (10 ^ 39), .str "", .str "ON", .str "on ", .str "off\n", .tuple [], .list [], .dict [], .tuple [.str "on"], .str "same", .list [.str "same"]]
def s14 : List PyData := w3 ++ [.none, .bool true, .bool false, .int 0, .int 1, .int (10 ^ 39), .str "", .str "ON", .str "on ", .str "off\n", .tuple [], .list [], .dict [], .tuple [.str "on"], .list [.str "same"]]
theorem odd_s14 : ∀ d ∈ odd14, d ∈ s14 := by
  unfold odd14 s14 w3
  simp
theorem pfx14 : Pfx s14 := pfx_of (by decide +kernel) (by decide +kernel)
/-- a tuple of such things, a list, or one of them -/
def V14 (d : PyData) : Prop := (∃ ds, d = .tuple ds ∧ ∀ x ∈ ds, x ∈ s14) ∨ (∃ ds, d = .list ds) ∨ d ∈ s14 ∨ ∃ kvs, d = .dict kvs
theorem V14.inj {d : PyData} (h : V14 d) {ws : List Str} (hw : ∀ x ∈ ws, PyData.str x ∈ w3) (e : d.shown = (PyData.tuple (ws.map PyData.str)).shown) : d = .tuple (ws.map PyData.str) := by
  have hs : ∀ x ∈ ws.map PyData.str, x ∈ s14 := fun x hx => by
    obtain ⟨y, hy, rfl⟩ := List.mem_map.mp hx
    exact List.mem_append_left _ (hw y hy)
  have e' := cp_inj e
  obtain ⟨l, hl⟩ := tup_hd (ws.map PyData.str)
  rw [hl] at e'
  have one : ∀ ds : List PyData, (∀ x ∈ ds, x ∈ s14) → d = .tuple ds → d = .tuple (ws.map PyData.str) := fun ds hd ed => by
    subst ed
    rw [pfx14.tup hd hs e]
  rcases h with ⟨ds, ed, hd⟩ | ⟨ds, rfl⟩ | h | ⟨kvs, rfl⟩
  · exact one ds hd ed
  · obtain ⟨l', h'⟩ := list_hd ds
    rw [h'] at e'
    cases e'
  · have : ∀ x ∈ s14, (∃ ds, x = .tuple ds ∧ ∀ y ∈ ds, y ∈ s14) ∨ (cp x.shown).head? ≠ some 40 := by
      intro x hx
      unfold s14 w3 at hx
      simp only [List.mem_append, List.mem_cons, List.not_mem_nil, or_false] at hx
      rcases hx with (rfl | rfl | rfl) | rfl | rfl | rfl | rfl | rfl | rfl | rfl | rfl | rfl | rfl | rfl | rfl | rfl | rfl | rfl
      all_goals first
        | exact .inr (by decide +kernel)
        | exact .inl ⟨_, rfl, by simp [s14, w3]⟩
    rcases this d h with ⟨ds, ed, hd⟩ | hne
    · exact one ds hd ed
    · rw [e'] at hne
      exact absurd rfl hne
  · simp only [PyData.shown] at e'
    unfold dictText at e'
    rw [cp_app, cp_app] at e'
    exact absurd (congrArg List.head? e') (by show some 123 ≠ some 40; decide)
end Pr
namespace K14
open PySem PySem.Spec PyProof.Rows L2 Pr
def DkX (a r : Addr) : Addr → Prop := fun b => b = a ∨ b = r
theorem dk3_a {H : Hp} {a c r : Addr} {m : Nat} (h : Dk3 H a c r m) : ∃ ys, H a = some (.lst ys) := by
  obtain ⟨cs, rs, k, h1, h2, h3, _⟩ := h
  exact ⟨_, h1⟩
theorem dk3_r {H : Hp} {a c r : Addr} {m : Nat} (h : Dk3 H a c r m) : ∃ ys, H r = some (.lst ys) := by
  obtain ⟨cs, rs, k, h1, h2, h3, _⟩ := h
  exact ⟨_, h3⟩
theorem dk_lst {a c r : Addr} {m : Nat} (h : Dk3 H a c r m) : ∀ b, DkX a r b → ∃ ys, H b = some (.lst ys) := by
  rintro b (rfl | rfl)
  · exact dk3_a h
  · exact dk3_r h
/-- X is kept: a and r and lists only -/
structure XL (X : Addr → Prop) (a r : Addr) (H : Hp) : Prop where
  xa : X a
  xr : X r
  ls : ∀ b, X b → ∃ ys, H b = some (.lst ys)
theorem xl_dk {H : Hp} {a c r : Addr} {m : Nat} (h : Dk3 H a c r m) : XL (DkX a r) a r H := ⟨.inl rfl, .inr rfl, dk_lst h⟩
theorem dk3_list {H H' : Hp} {a c r : Addr} {m m' : Nat} (h : Dk3 H a c r m) (h' : Dk3 H' a c r m') (s : But a r H H') {b : Addr} {ys : List V} (e : H b = some (.lst ys)) : ∃ zs, H' b = some (.lst zs) := by
  by_cases h1 : b = a
  · subst h1; exact dk3_a h'
  · by_cases h2 : b = r
    · subst h2; exact dk3_r h'
    · exact ⟨ys, s _ _ h1 h2 e⟩
theorem XL.but {X : Addr → Prop} {H H' : Hp} {a c r : Addr} {m m' : Nat} (x : XL X a r H) (h : Dk3 H a c r m) (h' : Dk3 H' a c r m') (s : But a r H H') : XL X a r H' := ⟨x.xa, x.xr, fun b hb => let ⟨_, e⟩ := x.ls b hb; dk3_list h h' s e⟩
theorem XL.same {X : Addr → Prop} {H H' : Hp} {a r : Addr} (x : XL X a r H) (s : Same H H') : XL X a r H' := ⟨x.xa, x.xr, fun b hb => let ⟨_, e⟩ := x.ls b hb; ⟨_, s _ _ e⟩⟩
theorem XL.per {X : Addr → Prop} {H H' : Hp} {a r : Addr} (x : XL X a r H) (b : But a r H H') : Per X H H' := Per.but x.xa x.xr b
theorem XL.new {X : Addr → Prop} {H : Hp} {a r : Addr} (x : XL X a r H) {b : Addr} (n : H b = none) : ¬ X b := fun h => by obtain ⟨ys, e⟩ := x.ls b h; rw [n] at e; cases e

def nOdd : List Str := ["_law_drawn", "_law_some"]
theorem scOdd : FnScope nOdd ["_law_drawn"] (defScope sOdd) := ⟨rfl, rfl, rfl, by decide +kernel, rfl, by decide +kernel, by decide +kernel⟩
section
variable {P : Program} {w : World} {K : PySem.W.Frag} {mg : Str → Option Value} {base : Heap}
def spOdd (K : PySem.W.Frag) : Sp := fun vs H Q _ => ∃ (X : Addr → Prop) (a c r : Addr) (m : Nat), vs = [.ref a] ∧ Dk3 H a c r (m + 1) ∧ XL X a r H ∧ ∀ H' v d, But a r H H' → Dk3 H' a c r m → VW K X H' v d → d ∈ odd14 → Q v H'
theorem ok_Odd {fNext : Addr} {fdNext : FuncData} {f : Addr} {fd : FuncData} {k : Nat} (F : Fun K "_law_odd" "_law_odd" sOdd f fd)
    (FNext : Fun K "_law_next" "_law_next" sNext fNext fdNext) (bNext : Binds K fdNext ["_law_drawn", "_law_many"] []) (gNext : mg "_law_next" = some (.ref fNext))
    (m_len : mg "len" = none) : FnOk P w K mg base CX0 (k + 2) f fd ["_law_drawn"] (spOdd K) := by
  have GNext : FnOk P w K mg base CX0 (k + 1) fNext fdNext ["_law_drawn", "_law_many"] spNext := ok_next FNext m_len
  refine F.ok scOdd (fun vs H Q E h => ?_) (fun cdv A outer s H vs Q E hr h => ?_)
  · obtain ⟨X, a, c, r, m, rfl, _⟩ := h
    rfl
  · obtain ⟨X, a, c, r, m, rfl, hD, xl, q⟩ := h
    refine ⟨_, pss_cons (ps_set (i := 1) scOdd.nd rfl (.inl rfl) (pe_lst (pa_cons pe_non (pa_cons pe_bl (pa_cons pe_bl (pa_cons pe_int (pa_cons pe_int (pa_cons (pe_op op_pow pe_int pe_int) (pa_cons pe_str (pa_cons pe_str (pa_cons pe_str (pa_cons pe_str pa_nil))))))))))))
      (pss_one (ps_ret (pe_ix (show IxR _ (rIxL K) from ix_list) (pe_op op_cat (pv 1) (pe_lst (pa_cons (pe_tup pa_nil) (pa_cons (pe_lstG pa_nil) (pa_cons pe_dnewK (pa_cons (pe_tup (pa_cons pe_str pa_nil)) (pa_cons pe_str (pa_cons (pe_lstG (pa_cons pe_str pa_nil)) pa_nil)))))))) (pe_call GNext (hr.mono (by omega)) (by rfl) gNext FNext.kp bNext .nil pass0 (pa_cons (pv 0) (pa_cons pe_int pa_nil))) (fun _ _ => rfl)))), ?_⟩
    refine ⟨10, 39, rfl, rfl, ⟨by decide, by decide, by decide⟩, ?_⟩
    refine ⟨by show 10 ≤ sizeLine; decide, fun S0 n0 => ?_⟩
    have s0 := same_new (o := HO.lst [.non, .bl true, .bl false, .int 0, .int 1, .int (10 ^ (39 : Int).toNat), .str "", .str "ON", .str "on ", .str "off\n"]) n0
    refine ⟨.ref S0, rfl, ?_⟩
    refine ⟨Nat.zero_le _, fun T1 n1 => ?_⟩
    have s1 := same_new (o := HO.tup []) n1
    refine ⟨Nat.zero_le _, fun L1 n2 z1 => ?_⟩
    have s2 := same_new (o := HO.lst []) n2
    intro D1 n3
    have s3 := same_new (o := HO.dK []) n3
    refine ⟨by show 1 ≤ sizeLine; decide, fun T2 n4 => ?_⟩
    have s4 := same_new (o := HO.tup [.str "on"]) n4
    refine ⟨by show 1 ≤ sizeLine; decide, fun L2 n5 z2 => ?_⟩
    have s5 := same_new (o := HO.lst [.str "same"]) n5
    refine ⟨by show 6 ≤ sizeLine; decide, fun S1 n6 => ?_⟩
    have s6 := same_new (o := HO.lst [.ref T1, .ref L1, .ref D1, .ref T2, .str "same", .ref L2]) n6
    refine ⟨S0, S1, _, _, rfl, rfl, (s1.trans (s2.trans (s3.trans (s4.trans (s5.trans s6))))) _ _ upd_same, upd_same, by show 16 ≤ sizeLine; decide, fun S n7 => ?_⟩
    have s7 := same_new (o := HO.lst [.non, .bl true, .bl false, .int 0, .int 1, .int (10 ^ (39 : Int).toNat), .str "", .str "ON", .str "on ", .str "off\n", .ref T1, .ref L1, .ref D1, .ref T2, .str "same", .ref L2]) n7
    have nx : ∀ {Hx : Hp} {b : Addr}, Same H Hx → Hx b = none → (b ≠ a ∧ b ≠ r) ∧ ¬ X b := fun s n => let z := (hD.same s).fresh n; ⟨⟨z.1, z.2.1⟩, (xl.same s).new n⟩
    have x0 := nx (Same.refl _) n0
    have x1 := nx s0 n1
    have x2 := nx (s0.trans s1) n2
    have x3 := nx ((s0.trans s1).trans s2) n3
    have x4 := nx (((s0.trans s1).trans s2).trans s3) n4
    have x5 := nx ((((s0.trans s1).trans s2).trans s3).trans s4) n5
    have x6 := nx (((((s0.trans s1).trans s2).trans s3).trans s4).trans s5) n6
    have x7 := nx ((((((s0.trans s1).trans s2).trans s3).trans s4).trans s5).trans s6) n7
    refine gen_heap (fun HF => Same H HF ∧ HF S0 = some (.lst [.non, .bl true, .bl false, .int 0, .int 1, .int (10 ^ (39 : Int).toNat), .str "", .str "ON", .str "on ", .str "off\n"]) ∧ HF T1 = some (.tup []) ∧ HF L1 = some (.lst []) ∧ HF D1 = some (.dK []) ∧ HF T2 = some (.tup [.str "on"]) ∧ HF L2 = some (.lst [.str "same"]) ∧ HF S1 = some (.lst [.ref T1, .ref L1, .ref D1, .ref T2, .str "same", .ref L2]) ∧ HF S = some (.lst [.non, .bl true, .bl false, .int 0, .int 1, .int (10 ^ (39 : Int).toNat), .str "", .str "ON", .str "on ", .str "off\n", .ref T1, .ref L1, .ref D1, .ref T2, .str "same", .ref L2])) ⟨(s0.trans (s1.trans (s2.trans (s3.trans (s4.trans (s5.trans (s6.trans s7))))))), (s1.trans (s2.trans (s3.trans (s4.trans (s5.trans (s6.trans s7)))))) _ _ upd_same, (s2.trans (s3.trans (s4.trans (s5.trans (s6.trans s7))))) _ _ upd_same, (s3.trans (s4.trans (s5.trans (s6.trans s7)))) _ _ upd_same, (s4.trans (s5.trans (s6.trans s7))) _ _ upd_same, (s5.trans (s6.trans s7)) _ _ upd_same, (s6.trans s7) _ _ upd_same, s7 _ _ upd_same, upd_same⟩ fun HF ⟨sF, e0, e1, e2, e3, e4, e5, e6, e7⟩ => ?_
    have DF := hD.same sF
    refine ⟨.ref a, rfl, a, c, r, m, 16, rfl, DF, by decide, by decide, fun H2 x b2 D2' y0 y16 => ?_⟩
    have eS2 := b2 _ _ x7.1.1 x7.1.2 e7
    have b02 : But a r H H2 := But.trans (But.of sF) b2
    have px : Per X HF H2 := (xl.same sF).per b2
    have lo : ∀ d, lowB d = true → Low d := fun _ h => h
    have shq : ∀ {d : PyData}, lowB d = true → Shq 60 sizeLine d := fun h => (lo _ h).shq.mono (by decide) (by decide)
    have all : ∀ (j : Nat) (v : V), ([.non, .bl true, .bl false, .int 0, .int 1, .int (10 ^ (39 : Int).toNat), .str "", .str "ON", .str "on ", .str "off\n", .ref T1, .ref L1, .ref D1, .ref T2, .str "same", .ref L2] : List V)[j]? = some v → ∃ d, VW K X H2 v d ∧ odd14[j]? = some d := by
      intro j v hv
      match j, hv with
      | 0, hv => cases hv; exact ⟨_, vw_of (fun _ => .non) (lo _ (by decide +kernel)) (fun _ => by intro z; cases z), rfl⟩
      | 1, hv => cases hv; exact ⟨_, vw_of (fun _ => .bl _) (lo _ (by decide +kernel)) (fun _ => by intro z; cases z), rfl⟩
      | 2, hv => cases hv; exact ⟨_, vw_of (fun _ => .bl _) (lo _ (by decide +kernel)) (fun _ => by intro z; cases z), rfl⟩
      | 3, hv => cases hv; exact ⟨_, vw_of (fun _ => .int _) (lo _ (by decide +kernel)) (fun _ => by intro z; cases z), rfl⟩
      | 4, hv => cases hv; exact ⟨_, vw_of (fun _ => .int _) (lo _ (by decide +kernel)) (fun _ => by intro z; cases z), rfl⟩
      | 5, hv => cases hv; exact ⟨_, vw_of (fun _ => .int _) (lo _ (by decide +kernel)) (fun _ => by intro z; cases z), rfl⟩
      | 6, hv => cases hv; exact ⟨_, vw_str (n := 5) ⟨by decide +kernel, by decide +kernel⟩ (by decide), rfl⟩
      | 7, hv => cases hv; exact ⟨_, vw_str (n := 5) ⟨by decide +kernel, by decide +kernel⟩ (by decide), rfl⟩
      | 8, hv => cases hv; exact ⟨_, vw_str (n := 5) ⟨by decide +kernel, by decide +kernel⟩ (by decide), rfl⟩
      | 9, hv => cases hv; exact ⟨_, vw_str (n := 5) ⟨by decide +kernel, by decide +kernel⟩ (by decide), rfl⟩
      | 10, hv => cases hv; exact ⟨_, vw_tup x1.2 (px _ _ x1.2 e1) (fun _ _ => .nil) (shq (by decide +kernel)), rfl⟩
      | 11, hv => cases hv; exact ⟨_, vw_lst x2.2 (px _ _ x2.2 e2) z1 (fun _ _ => .nil) (shq (by decide +kernel)), rfl⟩
      | 12, hv => cases hv; exact ⟨_, vw_dct0 x3.2 (px _ _ x3.2 e3), rfl⟩
      | 13, hv => cases hv; exact ⟨_, vw_tup x4.2 (px _ _ x4.2 e4) (fun _ _ => .cons (.str _) .nil) (shq (by decide +kernel)), rfl⟩
      | 14, hv => cases hv; exact ⟨_, vw_str (n := 5) ⟨by decide +kernel, by decide +kernel⟩ (by decide), rfl⟩
      | 15, hv => cases hv; exact ⟨_, vw_lst x5.2 (px _ _ x5.2 e5) z2 (fun _ _ => .cons (.str _) .nil) (shq (by decide +kernel)), rfl⟩
      | j + 16, hv => cases hv
    obtain ⟨j, rfl⟩ : ∃ j : Nat, x = (j : Int) := ⟨x.toNat, (Int.toNat_of_nonneg y0).symm⟩
    have hj : j < ([.non, .bl true, .bl false, .int 0, .int 1, .int (10 ^ (39 : Int).toNat), .str "", .str "ON", .str "on ", .str "off\n", .ref T1, .ref L1, .ref D1, .ref T2, .str "same", .ref L2] : List V).length := by show j < 16; omega
    obtain ⟨d, hv, hs⟩ := all j _ (List.getElem?_eq_getElem hj)
    exact ⟨S, _, _, _, rfl, rfl, .inl (.inl eS2), atI_nat (List.getElem?_eq_getElem hj), q H2 _ d b02 D2' hv (List.mem_of_getElem? hs)⟩
end
end K14
namespace K14
open PySem PySem.Spec PyProof.Rows L2 Pr

section
variable {K : PySem.W.Frag} {σ : L2.St} {H : Hp} {t ta tb tc : TE} {w : World}
theorem gv_isi {d : PyData} {c : V} {T u : Value} {b : Bool} (h : Gv K t σ H d) (hc : ClsV c u) (hk : PySem.W.kitOne K T u = some b) (ht : ∀ v H', Dp K H' v d → TyX K H' v T) : Gv K (tCB (rIsi K) (tCons t (tCons (tC c) tNil))) σ H (.bool b) := fun H1 s Q q => h H1 s _ fun v H2 s2 d2 => ⟨v, c, T, u, b, rfl, hc, ht v H2 d2, hk, q _ H2 s2 (.bl b)⟩
theorem ty_tup {ds : List PyData} (v : V) (H' : Hp) (h : Dp K H' v (.tuple ds)) : TyX K H' v (.type "tuple") := by
  cases h with
  | tup hs _ => exact tyT hs
theorem ty_int {i : Int} (v : V) (H' : Hp) (h : Dp K H' v (.int i)) : TyX K H' v (.type "int") := by
  cases h; exact .base (.int i)
theorem ty_str {x : Str} (v : V) (H' : Hp) (h : Dp K H' v (.str x)) : TyX K H' v (.type "str") := by
  cases h; exact .base (.str x)
theorem gv_chain {i j k : Int} {g g' : Int → Int → Bool} (ha : Gv K ta σ H (.int i)) (hb : Gv K tb σ H (.int j)) (hc : Gv K tc σ H (.int k)) : Gv K (tChain (rI0 fun i j => V.bl (g i j)) (rI0 fun i j => V.bl (g' i j)) ta tb tc) σ H (.bool (g i j && g' j k)) := fun H1 s Q q => ha H1 s _ fun v H2 s2 d2 => hb H2 (s.trans s2) _ fun u H3 s3 d3 => by
  cases d2; cases d3
  refine ⟨i, j, rfl, rfl, _, rfl, ?_⟩
  by_cases e : g i j = true
  · rw [if_pos e]
    refine hc H3 ((s.trans s2).trans s3) _ fun x H4 s4 d4 => ?_
    cases d4
    exact ⟨j, k, rfl, rfl, q _ H4 ((s2.trans s3).trans s4) (by rw [e]; exact .bl _)⟩
  · rw [if_neg e]
    exact q _ H3 (s2.trans s3) (by rw [(Bool.not_eq_true _).mp e]; exact .bl _)
theorem gv_sortSet {l : List Int} (h : Gv K t σ H (dInts l)) (up : l.Pairwise (· < ·)) (hl : l.length < 64) : Gv K (tCB (rSortedSet w) (tCons (tCB (rSetT' K w) (tCons t tNil)) tNil)) σ H (.list (l.map PyData.int)) := fun H1 s Q q => h H1 s _ fun v H2 s2 dv => by
  obtain ⟨a, rfl, ha⟩ := dv.intsI
  refine ⟨a, l, rfl, ha, by omega, fun z n ks nz nd mem len => ?_⟩
  have en : n = l.length := by
    rw [← len]
    have ndl : l.Nodup := up.imp fun h => by omega
    exact Nat.le_antisymm (nodup_sub nd fun x hx => (mem x).mp hx) (nodup_sub ndl fun x hx => (mem x).mpr hx)
  subst en
  refine ⟨z, _, _, rfl, upd_same, hl, fun ns p up2 m2 l2 np => ?_⟩
  have e : ns = l := asc_ext up2 up fun x => by rw [m2 x, decide_eq_true_eq]
  subst e
  have s3 : Same H2 (upd H2 z (SetO w z (fun j => decide (j ∈ ns)) ns.length)) := same_new nz
  have s4 := same_new (o := HO.lst (ns.map V.int)) np
  exact q _ _ (s2.trans (s3.trans s4)) (.lst (.inl (.inl upd_same)) (dpAll_ints _))
theorem gv_lenSetT {l : List Int} (h : Gv K t σ H (dInts l)) (nd : l.Nodup) (hl : l.length ≤ 1000) : Gv K (tCB (rLenSet w) (tCons (tCB (rSetT' K w) (tCons t tNil)) tNil)) σ H (.int (l.length : Int)) := fun H1 s Q q => h H1 s _ fun v H2 s2 dv => by
  obtain ⟨a, rfl, ha⟩ := dv.intsI
  refine ⟨a, l, rfl, ha, hl, fun z n ks nz nd2 mem len => ?_⟩
  have en : n = l.length := by
    rw [← len]
    exact Nat.le_antisymm (nodup_sub nd2 fun x hx => (mem x).mp hx) (nodup_sub nd fun x hx => (mem x).mpr hx)
  subst en
  exact ⟨z, _, _, rfl, upd_same, q _ _ (s2.trans (same_new nz)) (.int _)⟩
theorem gv_neNil {ta tb : TE} {ds : List PyData} (ha : Gv K ta σ H (.list [])) (hb : Gv K tb σ H (.list [])) : Gv K (tOp (rNeD K) ta tb) σ H (.bool false) := (gv_neD ha hb rfl rfl).to rfl
theorem gv_eqNil {ta tb : TE} (ha : Gv K ta σ H (.list [])) (hb : Gv K tb σ H (.list [])) : Gv K (tOp (rEqD K) ta tb) σ H (.bool true) := (gv_eqD ha hb rfl rfl).to rfl
end
theorem filt_none {α : Type} {l : List α} {p : α → Bool} (h : ∀ x ∈ l, p x = false) : l.filter p = [] := List.filter_eq_nil_iff.mpr fun x hx => by rw [h x hx]; decide

def nIsRow : List Str := ["_law_n", "_law_value", "_law_one"]
theorem scIsRow : FnScope nIsRow ["_law_n", "_law_value"] (defScope sIsRow) := ⟨rfl, rfl, rfl, by decide +kernel, rfl, by decide +kernel, by decide +kernel⟩
section
variable {P : Program} {w : World} {K : PySem.W.Frag} {mg : Str → Option Value} {base : Heap}
def spIsRow (K : PySem.W.Frag) : Sp := spP K (fun x : Int × List Int => [.int x.1, dInts x.2]) (fun x => x.2.length ≤ 1000 ∧ x.2.Nodup ∧ ∀ y ∈ x.2, 0 ≤ y ∧ y < x.1) (fun x => .bool true)
theorem gv_IsRow {σ : L2.St} {H : Hp} {t : TA} {E : XK} {n : Int} {v : List Int} (h : GvA K t σ H [.int n, dInts v]) (hc : v.length ≤ 1000 ∧ v.Nodup ∧ ∀ y ∈ v, 0 ≤ y ∧ y < n) : Gv K (tCall (spIsRow K) [] E t) σ H (.bool true) := gv_call (K := K) (δ := fun x : Int × List Int => [.int x.1, dInts x.2]) (C := fun x => x.2.length ≤ 1000 ∧ x.2.Nodup ∧ ∀ y ∈ x.2, 0 ≤ y ∧ y < x.1) (f := fun x => .bool true) (n, v) h hc
theorem ok_IsRow  {f : Addr} {fd : FuncData} {k : Nat} (F : Fun K "_law_is_row" "_law_is_row" sIsRow f fd)
    (m_bool : mg "bool" = none) (m_int : mg "int" = none) (m_isinstance : mg "isinstance" = none) (m_len : mg "len" = none) (m_set : mg "set" = none) (m_tuple : mg "tuple" = none) : FnOk P w K mg base CX0 (k + 1) f fd ["_law_n", "_law_value"] (spIsRow K) := by
  refine F.ok scIsRow (fun vs H Q E h => ?_) (fun cdv A outer s H vs Q E hr h => ?_)
  · obtain ⟨_, hd, _⟩ := h
    exact hd.length
  · obtain ⟨⟨n, v⟩, hd, hc, q⟩ := h
    obtain ⟨v1, v2, rfl, d1, d2⟩ := dpAll2 hd
    try dsimp only at hc
    try dsimp only at q
    try dsimp only at d1 d2
    refine ⟨_, pss_cons (ps_if (PW.pt (pw_or (pt_not (pt_val (pe_callB (show CallR _ _ (rIsi K) from call_isi) (by rfl) m_isinstance (by decide +kernel) (pa_cons (pv 1) (pa_cons (pe_bltn (v := .ty "tuple") (by rfl) m_tuple (by decide +kernel) rfl) pa_nil))))) (pw_or1 (pt_cmpR op_ne (pe_callB (show CallR _ _ (rLenSet w) from cr_lenSet) (by rfl) m_len PySem.boot_len (pa_cons (pe_callTy (show CallR _ _ (rSetT' K w) from cr_setT rfl) (by rfl) m_set (by decide +kernel) (pa_cons (pv 1) pa_nil)) pa_nil)) (pe_callB (show CallR _ _ (rLenG K) from cr_lenG) (by rfl) m_len PySem.boot_len (pa_cons (pv 1) pa_nil)) (nomark _))))) (pss_one (ps_ret pe_bl)) pss_nil)
      (pss_cons (ps_if (pt_cmpR (show OpR _ _ (rNeD K) from op_neD hr.units) (pe_lc (own := [("_law_one", 2)]) (g := gName 2) rfl scIsRow.nd (show PI _ _ _ (iTup K _) from pi_tup (pv 1)) (blkOk_by (own := [("_law_one", 2)]) (N := nIsRow) (sc := defScope sIsRow) (by decide +kernel)) (fun _ _ _ _ _ => pg_name (i := 2) scIsRow.nd rfl (Or.inl rfl)) (fun _ _ _ _ _ => pts_one (PW.pt (pw_or (pt_not (pt_val (pe_callB (show CallR _ _ (rIsi K) from call_isi) (by rfl) m_isinstance (by decide +kernel) (pa_cons (pv 2) (pa_cons (pe_bltn (v := .ty "int") (by rfl) m_int (by decide +kernel) rfl) pa_nil))))) (pw_or1 (pt_val (pe_callB (show CallR _ _ (rIsi K) from call_isi) (by rfl) m_isinstance (by decide +kernel) (pa_cons (pv 2) (pa_cons (pe_bltn (v := .ty "bool") (by rfl) m_bool (by decide +kernel) rfl) pa_nil)))))))) (fun _ _ _ _ _ => pv 2)) (pe_lst pa_nil) (nomark _)) (pss_one (ps_ret pe_bl)) pss_nil)
      (pss_one (ps_ret (pe_cmpR (show OpR _ _ (rEqD K) from op_eqD hr.units) (pe_lc (own := [("_law_one", 2)]) (g := gName 2) rfl scIsRow.nd (show PI _ _ _ (iTup K _) from pi_tup (pv 1)) (blkOk_by (own := [("_law_one", 2)]) (N := nIsRow) (sc := defScope sIsRow) (by decide +kernel)) (fun _ _ _ _ _ => pg_name (i := 2) scIsRow.nd rfl (Or.inl rfl)) (fun _ _ _ _ _ => pts_one (pt_not (pt_chain op_le op_lt pe_int (pv 2) (pv 0)))) (fun _ _ _ _ _ => pv 2)) (pe_lst pa_nil) (nomark _))))), ?_⟩
    obtain ⟨vl, vnd, vin⟩ := hc
    have hlv : (v.map PyData.int).length = v.length := List.length_map _
    refine gs_no (gvt_or (gvt_not (gvt_b (K := K) (gv_isi (b := true) (gv_var (i := 1) rfl d2) (.ty _) (kit_ty (by decide +kernel)) ty_tup))) (fun Hy sy _ => gvt_test (gv_neI (gv_lenSetT (gv_var (i := 1) rfl (d2.sm sy)) vnd vl) ((gv_lenT (gv_var (i := 1) rfl (d2.sm sy))).to (by rw [hlv]))))) (by simp) fun H1 s1 => ?_
    refine gs_no (gvt_test (K := K) (gv_neNil (ds := []) ((gv_lc (δ := PyData.int) (as := v) (p := fun _ => false) (f := PyData.int) (gvi_tup (gv_var rfl (d2.sm s1))) (fun x vx Hx hx sx dx => ⟨(gvt_or (gvt_not (gvt_b (gv_isi (b := true) (gv_var rfl dx) (.ty _) (kit_ty (by decide +kernel)) ty_int))) (fun Hy sy _ => gvt_b (gv_isi (b := false) (gv_var rfl (dx.sm sy)) (.ty _) (kit_ty (by decide +kernel)) ty_int))).to rfl, fun h => absurd h (by decide)⟩) (fun _ _ => rfl) (by omega)).to (e := .list []) (by rw [filt_none fun _ _ => rfl]; rfl)) (gv_lst gva_nil))) rfl fun H2 s2 => ?_
    refine gs_ret (K := K) (gv_eqNil ((gv_lc (δ := PyData.int) (as := v) (p := fun _ => false) (f := PyData.int) (gvi_tup (gv_var rfl ((d2.sm s1).sm s2))) (fun x vx Hx hx sx dx => ⟨(gvt_not (gvt_test (gv_chain gv_int (gv_var rfl dx) (gv_var rfl (((d1.sm s1).sm s2).sm sx))))).to (by simp [(vin x hx).1, (vin x hx).2]), fun h => absurd h (by decide)⟩) (fun _ _ => rfl) (by omega)).to (e := .list []) (by rw [filt_none fun _ _ => rfl]; rfl)) (gv_lst gva_nil)) fun u H3 s3 dv => q u H3 (s1.trans (s2.trans s3)) dv
end
theorem shw_okT14 {pan : List (List Int)} (g : Good pan) : Shw 2 1853 (dPan pan) := by
  refine Shw.tuple (dep := 1) (n := 183) (m := 10) (fun d hd => ?_) (by rw [List.length_map]; exact g.few)
  obtain ⟨l, hl, rfl⟩ := List.mem_map.mp hd
  exact shw_ints (m := 60) (by have := pw_length (n := 10) (lo := 0) (g.up l hl) fun x hx => by have := g.rng l hl x hx; have := g.few; omega
                               omega) fun x hx => by have := g.rng l hl x hx; have := g.few; omega
theorem gv_notV {K : PySem.W.Frag} {σ : L2.St} {H : Hp} {t : TE} {b : Bool} (h : Gv K t σ H (.bool b)) : Gv K (tNotV t) σ H (.bool (!b)) := fun H1 s Q q => h H1 s _ fun v H2 s2 d2 => by
  cases d2
  exact ⟨b, rfl, q _ _ s2 (.bl _)⟩


/-- what row_for answers -/
def FoundR (pan : List (List Int)) (d : PyData) (o : Option (List Int)) : Prop := match o with
  | some t => dStrs (effM pan t) = d ∧ Gr pan (effM pan t) t ∧ t.Nodup ∧ InRow pan t
  | none => ∀ row, InRow pan row → dStrs (effM pan row) ≠ d
theorem FoundR.uniq {pan : List (List Int)} {d : PyData} {o o' : Option (List Int)} (h : FoundR pan d o) (h' : FoundR pan d o') : o = o' := by
  cases o with
  | none =>
    cases o' with
    | none => rfl
    | some t => exact absurd h'.1 (h t h'.2.2.2)
  | some t =>
    cases o' with
    | none => exact absurd h.1 (h' t h.2.2.2)
    | some t' =>
      have e : effM pan t = effM pan t' := dStrs_inj (h.1.trans h'.1.symm)
      rw [Gr.uniq h.2.1 rfl (e ▸ h'.2.1) e.symm]
theorem repOk_o {pan : List (List Int)} {d : PyData} {o : Option (List Int)} (few : pan.length ≤ 10) (h : FoundR pan d o) : RepOk (dDec o) := by
  cases o with
  | none => exact .inl rfl
  | some t =>
    have tl : t.length ≤ 10 := Nat.le_trans (nodup_few pan.length t h.2.2.1 h.2.2.2) few
    exact .inr ⟨(shw_ints (m := 10) tl fun x hx => by have := h.2.2.2 x hx; omega).mono (by decide) (by decide), _, .inl rfl⟩
section
variable {K : PySem.W.Frag} {σ : L2.St} {H : Hp} {E : XK} {pan : List (List Int)} {d : PyData} {N : Addr → Prop} {x : V} {p : Addr}
theorem for_raw {i j : Nat} {Q : VK} (hi : σ[i]? = some (some (.ref p))) (hj : σ[j]? = some (some x)) (hp : PanT K H p pan) (hg : Good pan) (hd : Dq K N H x d) (hl : ∀ ds, d = .tuple ds → ds.length ≤ 100)
    (q : ∀ v H' o, Same H H' → Dp K H' v (dDec o) → FoundR pan d o → Q v H') : tCall (spFor K) [] E (tCons (tVar i) (tCons (tVar j) tNil)) σ H Q :=
  ⟨.ref p, hi, x, hj, N, p, x, pan, d, rfl, hp, hg, hd, hl, fun H' r t s er ed gr nd rng => q _ H' (some t) s (dp_ints (.inl (.inl er))) ⟨ed, gr, nd, rng⟩, fun H' s hno => q _ H' none s .non hno⟩
theorem gv_ForR {i j : Nat} {o : Option (List Int)} (ho : FoundR pan d o) (hi : σ[i]? = some (some (.ref p))) (hj : σ[j]? = some (some x)) (hp : PanT K H p pan) (hg : Good pan) (hd : Dq K N H x d) (hl : ∀ ds, d = .tuple ds → ds.length ≤ 100) : Gv K (tCall (spFor K) [] E (tCons (tVar i) (tCons (tVar j) tNil))) σ H (dDec o) := fun H1 s Q q =>
  for_raw hi hj (hp.same s) hg (Dq.same s _ _ hd) hl fun v H' o' s' dv h => q v H' s' (by rw [ho.uniq h]; exact dv)
theorem gv_repr2 {i j : Nat} (hi : σ[i]? = some (some (.ref p))) (hj : σ[j]? = some (some x)) (hp : PanT K H p pan) (hd : Dq K (fun _ => False) H x d) (hs : Shq 60 sizeLine (.list [dPan pan, d])) : Gv K (tCB (rReprA K) (tCons (tLstG (tCons (tVar i) (tCons (tVar j) tNil))) tNil)) σ H (.str (PyData.list [dPan pan, d]).shown) := fun H1 s Q q =>
  ⟨.ref p, hi, x, hj, by show 2 ≤ sizeLine; decide, fun l nl hsys => .inr ⟨fun _ => False, .ref l, _, rfl, .lst hsys (fun z => z) upd_same (.cons (Dq.same (s.trans (same_new nl)) _ _ (dq_panT hp)) (.cons (Dq.same (s.trans (same_new nl)) _ _ hd) .nil)), hs, q _ _ (same_new nl) (.str _)⟩⟩
end
theorem shq_right {pan : List (List Int)} {d : PyData} (g : Good pan) (h : Shq 10 10000 d) : Shq 60 sizeLine (.list [dPan pan, d]) := by
  have hp : Shq 10 10000 (dPan pan) := (shw_okT14 g).q.mono (by decide) (by decide)
  exact (Shq.list (ds := [dPan pan, d]) (dep := 10) (n := 10000) (m := 2) (fun y hy => by
    rcases List.mem_cons.mp hy with rfl | hy
    · exact hp
    · rw [List.mem_singleton.mp hy]; exact h) (Nat.le_refl 2)).mono (by decide) (by decide)

def nRight : List Str := ["_law_panel_here", "_law_value", "_law_exists", "_law_before", "_law_found"]
theorem scRight : FnScope nRight ["_law_panel_here", "_law_value", "_law_exists"] (defScope sRight) := ⟨rfl, rfl, rfl, by decide +kernel, rfl, by decide +kernel, by decide +kernel⟩
section
variable {P : Program} {w : World} {K : PySem.W.Frag} {mg : Str → Option Value} {base : Heap}
def spRight (K : PySem.W.Frag) : Sp := fun vs H Q _ => ∃ (p : Addr) (x : V) (pan : List (List Int)) (d : PyData) (ex : Bool), vs = [.ref p, x, .bl ex] ∧ PanT K H p pan ∧ Good pan ∧ Dq K (fun _ => False) H x d ∧ Shq 10 10000 d ∧ (∀ ds, d = .tuple ds → ds.length ≤ 100) ∧
  (ex = true ↔ ∃ row, InRow pan row ∧ dStrs (effM pan row) = d) ∧ ∀ H', Same H H' → Q (.bl true) H'
theorem ok_Right {fNo : Addr} {fdNo : FuncData} {fPressE : Addr} {fdPressE : FuncData} {fJoin : Addr} {fdJoin : FuncData} {fBehind : Addr} {fdBehind : FuncData} {fPart : Addr} {fdPart : FuncData} {fWords : Addr} {fdWords : FuncData} {fUse : Addr} {fdUse : FuncData} {fFor : Addr} {fdFor : FuncData} {fLEff : Addr} {fdLEff : FuncData} {fIsRow : Addr} {fdIsRow : FuncData} {f : Addr} {fd : FuncData} {k : Nat} (F : Fun K "_law_right" "_law_right" sRight f fd)
    (FNo : Fun K "no_effect" "no_effect" sNo fNo fdNo) (bNo : Binds K fdNo ["panel"] []) (gNo : mg "no_effect" = some (.ref fNo))
    (FPressE : Fun K "press_effect" "press_effect" sPressE fPressE fdPressE) (bPressE : Binds K fdPressE ["panel", "button"] []) (gPressE : mg "press_effect" = some (.ref fPressE))
    (FJoin : Fun K "joined_effect" "joined_effect" sJoin fJoin fdJoin) (bJoin : Binds K fdJoin ["first", "second"] []) (gJoin : mg "joined_effect" = some (.ref fJoin))
    (FBehind : Fun K "effect_behind_press" "effect_behind_press" sBehind fBehind fdBehind) (bBehind : Binds K fdBehind ["panel", "effect", "button"] []) (gBehind : mg "effect_behind_press" = some (.ref fBehind))
    (FPart : Fun K "is_part" "is_part" sPart fPart fdPart) (bPart : Binds K fdPart ["effect", "wanted"] []) (gPart : mg "is_part" = some (.ref fPart))
    (FWords : Fun K "is_tuple_of_words" "is_tuple_of_words" sWords fWords fdWords) (bWords : Binds K fdWords ["value", "many"] []) (gWords : mg "is_tuple_of_words" = some (.ref fWords))
    (FUse : Fun K "useful_press" "useful_press" sUse fUse fdUse) (bUse : Binds K fdUse ["panel", "effect", "wanted"] []) (gUse : mg "useful_press" = some (.ref fUse))
    (FFor : Fun K "row_for" "row_for" sFor fFor fdFor) (bFor : Binds K fdFor ["panel", "value"] []) (gFor : mg "row_for" = some (.ref fFor))
    (FLEff : Fun K "_law_effect" "_law_effect" sLEff fLEff fdLEff) (bLEff : Binds K fdLEff ["_law_panel_here", "_law_row_here"] []) (gLEff : mg "_law_effect" = some (.ref fLEff))
    (FIsRow : Fun K "_law_is_row" "_law_is_row" sIsRow fIsRow fdIsRow) (bIsRow : Binds K fdIsRow ["_law_n", "_law_value"] []) (gIsRow : mg "_law_is_row" = some (.ref fIsRow))
    (m_all : mg "all" = none) (m_bool : mg "bool" = none) (m_int : mg "int" = none) (m_isinstance : mg "isinstance" = none) (m_len : mg "len" = none) (m_list : mg "list" = none) (m_range : mg "range" = none) (m_repr : mg "repr" = none) (m_set : mg "set" = none) (m_tuple : mg "tuple" = none) (m_zip : mg "zip" = none) {aW : Addr} (y_W : mg "WORDS" = some (.ref aW)) (y_HW : ∀ H : Hp, SqT K H aW ([wOn, wOff, wSame].map V.str)) : FnG P w K mg base (k + 6) f fd ["_law_panel_here", "_law_value", "_law_exists"] (spRight K) := by
  have GFor : FnOk P w K mg base CX0 (k + 5) fFor fdFor ["panel", "value"] (spFor K) := ok_for FFor FNo bNo gNo FPressE bPressE gPressE FJoin bJoin gJoin FBehind bBehind gBehind FPart bPart gPart FWords bWords gWords FUse bUse gUse y_W y_HW m_len m_list m_tuple m_zip m_range m_all m_isinstance
  have GLEff : FnOk P w K mg base CX0 (k + 1) fLEff fdLEff ["_law_panel_here", "_law_row_here"] (spLEff K) := ok_LEff FLEff m_len m_range m_tuple
  have GIsRow : FnOk P w K mg base CX0 (k + 1) fIsRow fdIsRow ["_law_n", "_law_value"] (spIsRow K) := ok_IsRow FIsRow m_bool m_int m_isinstance m_len m_set m_tuple
  refine okG F scRight (fun vs H Q E h => ?_) (fun cdv A outer s H vs Q E gd hr h => ?_)
  · obtain ⟨p, x, pan, d, ex, rfl, _⟩ := h
    rfl
  · obtain ⟨p, x, pan, d, ex, rfl, hp, hg, hd, hs, hl, hex, q⟩ := h
    refine ⟨_, pss_cons (ps_par (i := 3) (j := 4) rfl scRight.nd rfl rfl (by decide) rfl rfl (pa_cons (pe_callB (show CallR _ _ (rReprA K) from cr_reprA gd hr) (by rfl) m_repr (by decide +kernel) (pa_cons (pe_lstG (pa_cons (pv 0) (pa_cons (pv 1) pa_nil))) pa_nil)) (pa_cons (pe_call GFor (hr.mono (by omega)) (by rfl) gFor FFor.kp bFor .nil pass0 (pa_cons (pv 0) (pa_cons (pv 1) pa_nil))) pa_nil)) (by rfl))
      (pss_cons (ps_if (PW.pt (pw_or (pt_cmpR op_ne (pe_callB (show CallR _ _ (rReprA K) from cr_reprA gd hr) (by rfl) m_repr (by decide +kernel) (pa_cons (pe_lstG (pa_cons (pv 0) (pa_cons (pv 1) pa_nil))) pa_nil)) (pv 3) (nomark _)) (pw_or1 (pt_cmpR op_ne (pe_callB (show CallR _ _ (rReprA K) from cr_reprA gd hr) (by rfl) m_repr (by decide +kernel) (pa_cons (pe_call GFor (hr.mono (by omega)) (by rfl) gFor FFor.kp bFor .nil pass0 (pa_cons (pv 0) (pa_cons (pv 1) pa_nil))) pa_nil)) (pe_callB (show CallR _ _ (rReprA K) from cr_reprA gd hr) (by rfl) m_repr (by decide +kernel) (pa_cons (pv 4) pa_nil)) (nomark _))))) (pss_one (ps_ret pe_bl)) pss_nil)
      (pss_cons (ps_if (PW.pt (pw_or (pt_cmpR op_isN (pv 4) pe_non (by rfl)) (pw_or1 (pt_not (pt_val (pv 2)))))) (pss_one (ps_ret (pe_and (pe_cmpR op_isN (pv 4) pe_non (by rfl)) (pe_one (pe_not (pv 2)))))) pss_nil)
      (pss_one (ps_ret (pe_and (pe_call GIsRow (hr.mono (by omega)) (by rfl) gIsRow FIsRow.kp bIsRow .nil pass0 (pa_cons (pe_callB (show CallR _ _ (rLenG K) from cr_lenG) (by rfl) m_len PySem.boot_len (pa_cons (pv 0) pa_nil)) (pa_cons (pv 4) pa_nil))) (pe_one (pe_cmpR op_eq (pe_callB (show CallR _ _ (rReprA K) from cr_reprA gd hr) (by rfl) m_repr (by decide +kernel) (pa_cons (pe_call GLEff (hr.mono (by omega)) (by rfl) gLEff FLEff.kp bLEff .nil pass0 (pa_cons (pv 0) (pa_cons (pv 4) pa_nil))) pa_nil)) (pe_callB (show CallR _ _ (rReprA K) from cr_reprA gd hr) (by rfl) m_repr (by decide +kernel) (pa_cons (pv 1) pa_nil)) (nomark _)))))))), ?_⟩
    have few := hg.few
    have hlp : (pan.map dInts).length = pan.length := List.length_map _
    have hs2 := shq_right hg hs
    refine gs_parQ ((gv_repr2 (i := 0) (j := 1) rfl rfl hp hd hs2) H (Same.refl _) _ fun v1 H1 s1 dv1 => for_raw rfl rfl (hp.same s1) hg (Dq.same s1 _ _ hd) hl fun vf H2 o s2 df fr => ⟨_, _, rfl, ?_⟩)
    have s02 := s1.trans s2
    have hp2 := hp.same s02
    have hd2 := Dq.same s02 _ _ hd
    have dv2 := dv1.sm s2
    have ro := repOk_o few fr
    refine gs_no (gvt_or (gvt_test (gv_neS (K := K) (gv_repr2 (i := 0) (j := 1) rfl rfl hp2 hd2 hs2) (gv_var (i := 3) rfl dv2))) (fun Hy sy _ => gvt_test (K := K) (gv_neS (gv_reprA (gv_ForR fr (i := 0) (j := 1) rfl rfl (hp2.same sy) hg (Dq.same sy _ _ hd2) hl) ro) (gv_reprA (gv_var (i := 4) rfl (df.sm sy)) ro)))) (by simp) fun H3 s3 => ?_
    have df3 := df.sm s3
    have s03 := s02.trans s3
    have dex : ∀ {Hz : Hp}, Dp K Hz (.bl ex) (.bool ex) := .bl ex
    cases o with
    | none =>
      have e0 : ex = false := by
        cases ex with
        | false => rfl
        | true => obtain ⟨row, h1, h2⟩ := hex.mp rfl; exact absurd h2 (fr row h1)
      subst e0
      refine gs_if1 (gvt_or (c := true) (gvt_test (gv_isN (K := K) (d := .none) (gv_var (i := 4) rfl df3) rfl)) (fun Hy sy hb => by cases hb)) (fun _ H4 s4 => ?_) (fun hb H4 s4 => by cases hb)
      refine gs_ret (K := K) (gv_andV (gv_isN (d := .none) (gv_var (i := 4) rfl (df3.sm s4)) rfl) (fun _ => gv_notV (gv_var (i := 2) rfl (.bl false)))) fun u H5 s5 du => ?_
      cases du
      exact q H5 (s03.trans (s4.trans s5))
    | some t =>
      obtain ⟨ed, gr, nd, rng⟩ := fr
      have e1 : ex = true := hex.mpr ⟨t, rng, ed⟩
      subst e1
      have tl : t.length ≤ 10 := Nat.le_trans (nodup_few pan.length t nd rng) few
      refine gs_if1 (gvt_or (c := false) (gvt_test (gv_isN (K := K) (d := dInts t) (gv_var (i := 4) rfl df3) rfl)) (fun Hy sy hb => gvt_not (gvt_b (K := K) (gv_var (i := 2) rfl (.bl true))))) (fun hb H4 s4 => by cases hb) (fun _ H4 s4 => ?_)
      have s04 := s03.trans s4
      have df4 : Dp K H4 vf (dInts t) := df3.sm s4
      have hp4 := hp.same s04
      have hd4 := Dq.same s04 _ _ hd
      refine gs_ret (K := K) (gv_andV (gv_IsRow (n := (pan.length : Int)) (v := t) (gva_cons ((gv_lenT (gv_var (i := 0) rfl hp4.dp)).to (by rw [hlp])) (gva_cons (gv_var (i := 4) rfl df4) gva_nil)) ⟨by omega, nd, rng⟩) (fun _ => (gv_eqS (gv_reprA (gv_LEff (pan := pan) (row := t) (gva_cons (gv_var (i := 0) rfl hp4.dp) (gva_cons (gv_var (i := 4) rfl df4) gva_nil)) ⟨few, rng⟩) (rep_eff hg t)) (gv_reprAq (i := 1) rfl hd4 (hs.mono (by decide) (by decide)))).to (by rw [ed, decide_eq_true rfl]))) fun u H5 s5 du => ?_
      cases du
      exact q H5 (s04.trans s5)
end
end K14
namespace K14
open PySem PySem.Spec PyProof.Rows L2 Pr
theorem dqAll_strsW {K : PySem.W.Frag} {N : Addr → Prop} {H : Hp} (ws : List Str) : DqAll K N H (ws.map V.str) (ws.map PyData.str) := by
  induction ws with
  | nil => exact .nil
  | cons x l ih => exact .cons (.str x) ih


/-- gives a tuple with these items -/
def GqT (K : PySem.W.Frag) (t : TE) (σ : L2.St) (H : Hp) (xs : List V) : Prop := ∀ H1, Same H H1 → ∀ Q : VK, (∀ p H', Same H1 H' → SqT K H' p xs → Q (.ref p) H') → t σ H1 Q
section
variable {K : PySem.W.Frag} {σ : L2.St} {H H' : Hp} {ta tb tk tl : TE} {xs ys : List V}
theorem gq_var {i : Nat} {a : Addr} (hi : σ[i]? = some (some (.ref a))) (h : SqT K H a xs) : GqT K (tVar i) σ H xs := fun H1 s Q q => ⟨_, hi, q a H1 (Same.refl _) (same_sqT s h)⟩
theorem gq_cat (ha : GqT K ta σ H xs) (hb : GqT K tb σ H ys) (hn : xs.length + ys.length ≤ 100000) : GqT K (tOp (rCatS K) ta tb) σ H (xs ++ ys) := fun H1 s Q q => ha H1 s _ fun a H2 s2 ea => hb H2 (s.trans s2) _ fun b H3 s3 eb =>
  ⟨a, b, xs, ys, rfl, rfl, same_sqT s3 ea, eb, Nat.le_of_lt (small5 hn), fun p H' s' hp => q p H' (s2.trans (s3.trans s')) hp⟩
theorem cutToV (xs : List V) (m : Nat) : cutV xs none (some (m : Int)) = xs.take m := by
  unfold cutV
  rw [HT.sIx_none, HT.sIx_nat, List.drop_zero, Nat.sub_zero]
  by_cases h : m ≤ xs.length
  · rw [Nat.min_eq_left h]
  · rw [Nat.min_eq_right (by omega), List.take_of_length_le (Nat.le_refl _), List.take_of_length_le (by omega)]
theorem cutFromV (xs : List V) (m : Nat) : cutV xs (some (m : Int)) none = xs.drop m := by
  unfold cutV
  rw [HT.sIx_nat, HT.sIx_none]
  by_cases h : m ≤ xs.length
  · rw [Nat.min_eq_left h]
    exact List.take_of_length_le (by rw [List.length_drop]; omega)
  · rw [Nat.min_eq_right (by omega), List.drop_eq_nil_of_le (Nat.le_refl _), List.drop_eq_nil_of_le (show xs.length ≤ m by omega)]
    simp
theorem cutOneV (xs : List V) (m : Nat) (h : m < xs.length) : cutV xs (some (m : Int)) (some ((m : Int) + 1)) = (xs.drop m).take 1 := by
  unfold cutV
  rw [show ((m : Int) + 1) = ((m + 1 : Nat) : Int) by omega, HT.sIx_nat, HT.sIx_nat, Nat.min_eq_left (by omega), Nat.min_eq_left (by omega), show m + 1 - m = 1 by omega]
theorem gq_to {k : Nat} (ha : GqT K ta σ H xs) (hk : Gv K tk σ H (.int (k : Int))) : GqT K (tSl (rSlS K) ta tNoPart (tPart tk)) σ H (xs.take k) := fun H1 s Q q => ha H1 s _ fun a H2 s2 ea => hk H2 (s.trans s2) _ fun vk H3 s3 dk => by
  cases dk
  refine ⟨(k : Int), rfl, a, xs, rfl, same_sqT s3 ea, fun p H4 s4 hp => q p H4 ((s2.trans s3).trans s4) ?_⟩
  rw [cutToV] at hp
  exact hp
theorem gq_from {k : Nat} (ha : GqT K ta σ H xs) (hk : Gv K tk σ H (.int (k : Int))) : GqT K (tSl (rSlS K) ta (tPart tk) tNoPart) σ H (xs.drop k) := fun H1 s Q q => ha H1 s _ fun a H2 s2 ea => hk H2 (s.trans s2) _ fun vk H3 s3 dk => by
  cases dk
  refine ⟨(k : Int), rfl, a, xs, rfl, same_sqT s3 ea, fun p H4 s4 hp => q p H4 ((s2.trans s3).trans s4) ?_⟩
  rw [cutFromV] at hp
  exact hp
theorem gq_one {k : Nat} (ha : GqT K ta σ H xs) (hk : Gv K tk σ H (.int (k : Int))) (hl : Gv K tl σ H (.int ((k : Int) + 1))) (h : k < xs.length) : GqT K (tSl (rSlS K) ta (tPart tk) (tPart tl)) σ H ((xs.drop k).take 1) := fun H1 s Q q => ha H1 s _ fun a H2 s2 ea => hk H2 (s.trans s2) _ fun vk H3 s3 dk => by
  cases dk
  refine ⟨(k : Int), rfl, hl H3 ((s.trans s2).trans s3) _ fun vl H4 s4 dl => ?_⟩
  cases dl
  refine ⟨(k : Int) + 1, rfl, a, xs, rfl, same_sqT (s3.trans s4) ea, fun p H5 s5 hp => q p H5 (((s2.trans s3).trans s4).trans s5) ?_⟩
  rw [cutOneV _ _ h] at hp
  exact hp
theorem gq_rev (ha : GqT K ta σ H xs) : GqT K (tRevT K ta) σ H xs.reverse := fun H1 s Q q => ha H1 s _ fun a H2 s2 ea => ⟨a, xs, rfl, ea, fun p np => q p _ (s2.trans (same_new np)) (.inl (.inl upd_same))⟩
theorem gq_tup1 {i : Nat} {v : V} (hi : σ[i]? = some (some v)) : GqT K (tTup (tCons (tVar i) tNil)) σ H [v] := fun H1 s Q q => ⟨v, hi, by show 1 ≤ sizeLine; decide, fun p np => q p _ (same_new np) (.inl (.inl upd_same))⟩
theorem gq_str1 {x : Str} : GqT K (tTup (tCons (tC (.str x)) tNil)) σ H [.str x] := fun H1 s Q q => ⟨by show 1 ≤ sizeLine; decide, fun p np => q p _ (same_new np) (.inl (.inl upd_same))⟩
theorem sqT_per {X : Addr → Prop} (hX : ∀ b, X b → ∃ ys, H b = some (.lst ys)) {l : Addr} (h : SqT K H l xs) (p : Per X H H') : SqT K H' l xs := by
  rcases h with (h | ⟨o, h⟩) | h
  · exact .inl (.inl (p _ _ (fun z => by obtain ⟨ys, e⟩ := hX l z; rw [h] at e; cases e) h))
  · exact .inl (.inr ⟨o, p _ _ (fun z => by obtain ⟨ys, e⟩ := hX l z; rw [h] at e; cases e) h⟩)
  · exact .inr h
end
theorem low_s14 : ∀ x ∈ s14, Shq 3 60 x := by
  intro x hx
  have : lowB x = true := by
    unfold s14 w3 at hx
    simp only [List.mem_append, List.mem_cons, List.not_mem_nil, or_false] at hx
    rcases hx with (rfl | rfl | rfl) | rfl | rfl | rfl | rfl | rfl | rfl | rfl | rfl | rfl | rfl | rfl | rfl | rfl | rfl | rfl <;> decide +kernel
  exact Low.shq this
theorem w3_word {x : Str} (h : IsW x) : PyData.str x ∈ s14 := by
  rcases h with rfl | rfl | rfl
  · exact List.mem_of_getElem? (i := 2) rfl
  · exact List.mem_of_getElem? (i := 0) rfl
  · exact List.mem_of_getElem? (i := 1) rfl
theorem w3_mem {x : Str} (h : IsW x) : PyData.str x ∈ w3 := by
  rcases h with rfl | rfl | rfl
  · exact List.mem_of_getElem? (i := 2) rfl
  · exact List.mem_of_getElem? (i := 0) rfl
  · exact List.mem_of_getElem? (i := 1) rfl
/-- what the law's values are -/
structure D14 (d : PyData) : Prop where
  v : V14 d
  sh : Shq 10 10000 d
  ln : ∀ ds, d = .tuple ds → ds.length ≤ 100
theorem d14_tup {ds : List PyData} (h : ∀ x ∈ ds, x ∈ s14) (hl : ds.length ≤ 30) : D14 (.tuple ds) :=
  ⟨.inl ⟨ds, rfl, h⟩, (Shq.tuple (dep := 3) (n := 60) (m := 30) (fun x hx => low_s14 x (h x hx)) hl).mono (by decide) (by decide), fun es e => by injection e with e; rw [← e]; omega⟩
theorem d14_lst {ds : List PyData} (h : ∀ x ∈ ds, x ∈ s14) (hl : ds.length ≤ 30) : D14 (.list ds) :=
  ⟨.inr (.inl ⟨ds, rfl⟩), (Shq.list (dep := 3) (n := 60) (m := 30) (fun x hx => low_s14 x (h x hx)) hl).mono (by decide) (by decide), fun es e => by cases e⟩
theorem d14_one {d : PyData} (h : d ∈ s14) : D14 d := ⟨.inr (.inr (.inl h)), (low_s14 d h).mono (by decide) (by decide), fun es e => by
  subst e
  have := List.all_eq_true.mp (show s14.all (fun x => match x with | .tuple es => decide (es.length ≤ 100) | _ => true) = true by decide +kernel) _ h
  exact of_decide_eq_true this⟩
theorem words_s14 {ws : List Str} (h : ∀ x ∈ ws, IsW x) : ∀ x ∈ ws.map PyData.str, x ∈ s14 := fun x hx => by
  obtain ⟨y, hy, rfl⟩ := List.mem_map.mp hx
  exact w3_word (h y hy)
/-- a value of the law -/
def X14 (K : PySem.W.Frag) (X : Addr → Prop) (H : Hp) (v : V) : Prop := ∃ d, VW K X H v d ∧ D14 d
theorem X14.per {K : PySem.W.Frag} {X : Addr → Prop} {H H' : Hp} {v : V} (h : X14 K X H v) (p : Per X H H') : X14 K X H' v := let ⟨d, w, z⟩ := h; ⟨d, w.per p, z⟩
/-- a tuple of words -/
def W14 (K : PySem.W.Frag) (X : Addr → Prop) (H : Hp) (n : Nat) (v : V) : Prop := ∃ (t : Addr) (ws : List Str), v = .ref t ∧ (∀ H', Per X H H' → SqT K H' t (ws.map V.str)) ∧ ws.length = n ∧ ∀ x ∈ ws, IsW x
theorem W14.per {K : PySem.W.Frag} {X : Addr → Prop} {H H' : Hp} {n : Nat} {v : V} (h : W14 K X H n v) (p : Per X H H') : W14 K X H' n v := let ⟨t, ws, e, w, z⟩ := h; ⟨t, ws, e, fun H2 p2 => w H2 (p.trans p2), z⟩
section
variable {K : PySem.W.Frag} {X : Addr → Prop} {H H' : Hp} {xs : List V} {ds : List PyData} {l : Addr} {n : Nat} {v : V}
theorem dqA_per (hd : ∀ v d, (v, d) ∈ xs.zip ds → VW K X H v d) (hl : xs.length = ds.length) (p : Per X H H') : DqAll K (fun _ => False) H' xs ds := by
  induction xs generalizing ds with
  | nil => cases ds with | nil => exact .nil | cons d r => simp at hl
  | cons v r ih =>
    cases ds with
    | nil => simp at hl
    | cons d ds => exact .cons ((hd v d List.mem_cons_self).dq H' p) (ih (fun v d h => hd v d (List.mem_cons_of_mem _ h)) (by simpa using hl))
theorem x14_tup (hX : ∀ b, X b → ∃ ys, H b = some (.lst ys)) (h : SqT K H l xs) (hd : ∀ H', Per X H H' → DqAll K (fun _ => False) H' xs ds) (hs : ∀ x ∈ ds, x ∈ s14) (hl : ds.length ≤ 30) : X14 K X H (.ref l) :=
  ⟨.tuple ds, ⟨fun H' p => .tup (sqT_per hX h p) (hd H' p), (d14_tup hs hl).sh.mono (by decide) (by decide), fun x z => by cases z⟩, d14_tup hs hl⟩
theorem W14.x (h : W14 K X H n v) (hn : n ≤ 30) : X14 K X H v := by
  obtain ⟨t, ws, rfl, hw, hl, h3⟩ := h
  exact ⟨.tuple (ws.map PyData.str), ⟨fun H' p => .tup (hw H' p) (dqAll_strsW ws), (d14_tup (words_s14 h3) (by rw [List.length_map]; omega)).sh.mono (by decide) (by decide), fun x z => by cases z⟩, d14_tup (words_s14 h3) (by rw [List.length_map]; omega)⟩
theorem w14_of (hX : ∀ b, X b → ∃ ys, H b = some (.lst ys)) {ws : List Str} (h : SqT K H l (ws.map V.str)) (hl : ws.length = n) (h3 : ∀ x ∈ ws, IsW x) : W14 K X H n (.ref l) := ⟨l, ws, rfl, fun H' p => sqT_per hX h p, hl, h3⟩
end

theorem sqT_but3 {K : PySem.W.Frag} {H H' : Hp} {a c r : Addr} {m : Nat} (d : Dk3 H a c r m) (b : But a r H H') {l : Addr} {xs : List V} (h : SqT K H l xs) : SqT K H' l xs := sqT_kp (Kp3 d b) h

def nBent : List Str := ["_law_drawn", "_law_value", "_law_at", "_law_word", "_law_some"]
theorem scBent : FnScope nBent ["_law_drawn", "_law_value"] (defScope sBent) := ⟨rfl, rfl, rfl, by decide +kernel, rfl, by decide +kernel, by decide +kernel⟩
section
variable {P : Program} {w : World} {K : PySem.W.Frag} {mg : Str → Option Value} {base : Heap}
def spBent (K : PySem.W.Frag) : Sp := fun vs H Q _ => ∃ (X : Addr → Prop) (a c r t : Addr) (m : Nat) (ws : List Str), vs = [.ref a, .ref t] ∧ Dk3 H a c r (m + 4) ∧ XL X a r H ∧ SqT K H t (ws.map V.str) ∧ 1 ≤ ws.length ∧ ws.length ≤ 10 ∧ (∀ x ∈ ws, IsW x) ∧
  ∀ H' v, But a r H H' → Dk3 H' a c r m → X14 K X H' v → Q v H'
theorem ok_Bent {fNext : Addr} {fdNext : FuncData} {fOdd : Addr} {fdOdd : FuncData} {f : Addr} {fd : FuncData} {k : Nat} (F : Fun K "_law_bent" "_law_bent" sBent f fd)
    (FNext : Fun K "_law_next" "_law_next" sNext fNext fdNext) (bNext : Binds K fdNext ["_law_drawn", "_law_many"] []) (gNext : mg "_law_next" = some (.ref fNext))
    (FOdd : Fun K "_law_odd" "_law_odd" sOdd fOdd fdOdd) (bOdd : Binds K fdOdd ["_law_drawn"] []) (gOdd : mg "_law_odd" = some (.ref fOdd))
    (m_len : mg "len" = none) (m_list : mg "list" = none) : FnOk P w K mg base CX0 (k + 3) f fd ["_law_drawn", "_law_value"] (spBent K) := by
  have GNext : FnOk P w K mg base CX0 (k + 1) fNext fdNext ["_law_drawn", "_law_many"] spNext := ok_next FNext m_len
  have GOdd : FnOk P w K mg base CX0 (k + 2) fOdd fdOdd ["_law_drawn"] (spOdd K) := ok_Odd FOdd FNext bNext gNext m_len
  refine F.ok scBent (fun vs H Q E h => ?_) (fun cdv A outer s H vs Q E hr h => ?_)
  · obtain ⟨X, a, c, r, t, m, ws, rfl, _⟩ := h
    rfl
  · obtain ⟨X, a, c, r, t, m, ws, rfl, hD, xl, ht, w1, w10, hw, q⟩ := h
    refine ⟨_, pss_cons (ps_set (i := 2) scBent.nd rfl (.inl rfl) (pe_call GNext (hr.mono (by omega)) (by rfl) gNext FNext.kp bNext .nil pass0 (pa_cons (pv 0) (pa_cons (pe_callB (show CallR _ _ (rLenG K) from cr_lenG) (by rfl) m_len PySem.boot_len (pa_cons (pv 1) pa_nil)) pa_nil))))
      (pss_cons (ps_set (i := 3) scBent.nd rfl (.inl rfl) (pe_ix (show IxR _ (rIxL K) from ix_list) (pe_lst (pa_cons pe_str (pa_cons pe_str (pa_cons pe_str (pa_cons (pe_call GOdd (hr.mono (by omega)) (by rfl) gOdd FOdd.kp bOdd .nil pass0 (pa_cons (pv 0) pa_nil)) pa_nil))))) (pe_call GNext (hr.mono (by omega)) (by rfl) gNext FNext.kp bNext .nil pass0 (pa_cons (pv 0) (pa_cons pe_int pa_nil))) (fun _ _ => rfl)))
      (pss_cons (ps_set (i := 4) scBent.nd rfl (.inl rfl) (pe_lst (pa_cons (pe_op (show OpR _ _ (rCatS K) from op_catS) (pe_op (show OpR _ _ (rCatS K) from op_catS) (pe_slice (show SlR _ (rSlS K) from sl_tupS) (pv 1) po_none (po_some (pv 2))) (pe_tup (pa_cons (pv 3) pa_nil))) (pe_slice (show SlR _ (rSlS K) from sl_tupS) (pv 1) (po_some (pe_op op_add (pv 2) pe_int)) po_none)) (pa_cons (pe_op (show OpR _ _ (rCatS K) from op_catS) (pe_slice (show SlR _ (rSlS K) from sl_tupS) (pv 1) po_none (po_some (pv 2))) (pe_slice (show SlR _ (rSlS K) from sl_tupS) (pv 1) (po_some (pe_op op_add (pv 2) pe_int)) po_none)) pa_nil))))
      (pss_cons (ps_set (i := 4) scBent.nd rfl (.inl rfl) (pe_op op_cat (pv 4) (pe_lst (pa_cons (pe_op (show OpR _ _ (rCatS K) from op_catS) (pv 1) (pe_slice (show SlR _ (rSlS K) from sl_tupS) (pv 1) (po_some (pv 2)) (po_some (pe_op op_add (pv 2) pe_int)))) (pa_cons (pe_callTy (show CallR _ _ (rListG K) from call_listG) (by rfl) m_list (by decide +kernel) (pa_cons (pv 1) pa_nil)) (pa_cons (pe_revT (pv 1)) pa_nil))))))
      (pss_one (ps_ret (pe_ix (show IxR _ (rIxL K) from ix_list) (pv 4) (pe_call GNext (hr.mono (by omega)) (by rfl) gNext FNext.kp bNext .nil pass0 (pa_cons (pv 0) (pa_cons pe_int pa_nil))) (fun _ _ => rfl))))))), ?_⟩
    refine gs_setQS ⟨.ref a, rfl, .ref t, rfl, t, ws.map V.str, rfl, .inr ht, ?_⟩
    rw [List.length_map]
    refine ⟨a, c, r, m + 3, (ws.length : Int), rfl, hD, by omega, by omega, fun H1 x b1 D1 x0 x1 => ?_⟩
    obtain ⟨j, rfl⟩ : ∃ j : Nat, x = (j : Int) := ⟨x.toNat, (Int.toNat_of_nonneg x0).symm⟩
    have hj : j < ws.length := by omega
    have ht1 := sqT_but3 hD b1 ht
    have xl1 := xl.but hD D1 b1
    refine gs_setQS ⟨.ref a, rfl, X, a, c, r, m + 2, rfl, D1, xl1, fun H2 vo d2 b2 D2 wo ho => ?_⟩
    have xl2 := xl1.but D1 D2 b2
    refine ⟨by show 4 ≤ sizeLine; decide, fun ql nql => ⟨.ref a, rfl, a, c, r, m + 1, 4, rfl, D2.same (same_new nql), by decide, by decide, fun H3 z b3 D3 z0 z1 => ?_⟩⟩
    have oq := D2.fresh nql
    have eq3 : H3 ql = some (.lst [V.str wOn, .str wOff, .str wSame, vo]) := b3 _ _ oq.1 oq.2.1 upd_same
    have p23 : Per X H2 H3 := (Per.of (same_new nql)).trans (Per.but xl.xa xl.xr b3)
    have xl3 := (xl2.same (same_new nql)).but (D2.same (same_new nql)) D3 b3
    have wo3 := wo.per p23
    obtain ⟨u, du, hu, wu, hdu⟩ : ∃ u du, atI [V.str wOn, .str wOff, .str wSame, vo] z = some u ∧ VW K X H3 u du ∧ du ∈ s14 := by
      have ws3 : ∀ {y : Str}, IsW y → VW K X H3 (.str y) (.str y) := fun {y} hy => vw_str (n := 5) ⟨by rcases hy with rfl | rfl | rfl <;> decide +kernel, by rcases hy with rfl | rfl | rfl <;> decide +kernel⟩ (by decide)
      obtain h | h | h | h : z = 0 ∨ z = 1 ∨ z = 2 ∨ z = 3 := by omega
      · subst h; exact ⟨_, _, rfl, ws3 (.inr (.inl rfl)), w3_word (.inr (.inl rfl))⟩
      · subst h; exact ⟨_, _, rfl, ws3 (.inr (.inr rfl)), w3_word (.inr (.inr rfl))⟩
      · subst h; exact ⟨_, _, rfl, ws3 (.inl rfl), w3_word (.inl rfl)⟩
      · subst h; exact ⟨_, _, rfl, wo3, odd_s14 _ ho⟩
    refine ⟨ql, _, z, u, rfl, rfl, .inl (.inl eq3), hu, ?_⟩
    have ht3 : SqT K H3 t (ws.map V.str) := sqT_but3 (D2.same (same_new nql)) b3 (same_sqT (same_new nql) (sqT_but3 D1 b2 ht1))
    have wl : (ws.map V.str).length = ws.length := List.length_map _
    have vt : ∀ {σ : L2.St} {H : Hp}, σ[1]? = some (some (.ref t)) → SqT K H t (ws.map V.str) → GqT K (tVar 1) σ H (ws.map V.str) := fun h e => gq_var h e
    have vj : ∀ {σ : L2.St} {H : Hp}, σ[2]? = some (some (.int (j : Int))) → Gv K (tVar 2) σ H (.int (j : Int)) := fun h => gv_var h (.int _)
    have vj1 : ∀ {σ : L2.St} {H : Hp}, σ[2]? = some (some (.int (j : Int))) → Gv K (tOp rAdd (tVar 2) (tC (.int 1))) σ H (.int ((j : Int) + 1)) := fun h => gv_add (vj h) gv_int
    refine gs_setQS ((gq_cat (gq_cat (gq_to (vt rfl ht3) (vj rfl)) (gq_tup1 (i := 3) (v := u) rfl) (by rw [List.length_take, wl, List.length_singleton]; omega)) (gq_from (k := j + 1) (vt rfl ht3) ((vj1 rfl).to (by congr 1))) (by rw [List.length_append, List.length_take, List.length_drop, wl, List.length_singleton]; omega)) H3 (Same.refl _) _ fun p1 H4 s4 e1 => ?_)
    refine (gq_cat (gq_to (vt rfl (same_sqT s4 ht3)) (vj rfl)) (gq_from (k := j + 1) (vt rfl (same_sqT s4 ht3)) ((vj1 rfl).to (by congr 1))) (by rw [List.length_take, List.length_drop, wl]; omega)) H4 (Same.refl _) _ fun p2 H5 s5 e2 => ?_
    refine ⟨by show 2 ≤ sizeLine; decide, fun S1 nS1 => ?_⟩
    have sS1 := same_new (o := HO.lst [V.ref p1, .ref p2]) nS1
    have s35 := s4.trans (s5.trans sS1)
    have eS1 : (upd H5 S1 (.lst [V.ref p1, .ref p2])) S1 = some (.lst [V.ref p1, .ref p2]) := upd_same
    have e1 := same_sqT (s5.trans sS1) e1
    have e2 := same_sqT sS1 e2
    generalize upd H5 S1 (.lst [V.ref p1, .ref p2]) = H6 at sS1 s35 eS1 e1 e2 ⊢
    have ht6 := same_sqT s35 ht3
    refine gs_setQS ⟨.ref S1, rfl, ?_⟩
    refine (gq_cat (vt rfl ht6) (gq_one (vt rfl ht6) (vj rfl) (vj1 rfl) (by rw [wl]; exact hj)) (by rw [List.length_take, List.length_drop, wl]; omega)) H6 (Same.refl _) _ fun p3 H7 s7 e3 => ?_
    refine ⟨.ref t, rfl, t, _, rfl, same_sqT s7 ht6, fun L4 nL4 zL4 => ?_⟩
    have sL4 := same_new (o := HO.lst (ws.map V.str)) nL4
    have eL4 : (upd H7 L4 (.lst (ws.map V.str))) L4 = some (.lst (ws.map V.str)) := upd_same
    refine (gq_rev (vt rfl (same_sqT (s7.trans sL4) ht6))) _ (Same.refl _) _ fun p5 H8 s8 e5 => ?_
    have eL48 := s8 _ _ eL4
    have s68 := s7.trans (sL4.trans s8)
    have e3 := same_sqT (sL4.trans s8) e3
    refine ⟨by show 3 ≤ sizeLine; decide, fun S2 nS2 => ?_⟩
    have sS2 := same_new (o := HO.lst [V.ref p3, .ref L4, .ref p5]) nS2
    refine ⟨S1, S2, _, _, rfl, rfl, sS2 _ _ (s68 _ _ eS1), upd_same, by show 5 ≤ sizeLine; decide, fun S nS => ?_⟩
    have sS := same_new (o := HO.lst [V.ref p1, .ref p2, .ref p3, .ref L4, .ref p5]) nS
    have s6S := s68.trans (sS2.trans sS)
    have eS : (upd (upd H8 S2 (.lst [V.ref p3, .ref L4, .ref p5])) S (.lst [V.ref p1, .ref p2, .ref p3, .ref L4, .ref p5])) S = some (.lst [V.ref p1, .ref p2, .ref p3, .ref L4, .ref p5]) := upd_same
    have e1 := same_sqT s6S e1
    have e2 := same_sqT s6S e2
    have e3 := same_sqT (sS2.trans sS) e3
    have e5 := same_sqT (sS2.trans sS) e5
    have eL49 := sS _ _ (sS2 _ _ eL48)
    have s39 := s35.trans s6S
    have D9 := D3.same s39
    have nX : ∀ {Hx : Hp} {b : Addr}, Same H3 Hx → Hx b = none → b ≠ a ∧ b ≠ r := fun s n => let z := (D3.same s).fresh n; ⟨z.1, z.2.1⟩
    have xL4 : ¬ X L4 := (xl3.same (s35.trans s7)).new nL4
    have wu9 := wu.per (Per.of s39)
    show tRet _ _ _ (upd (upd H8 S2 (.lst [V.ref p3, .ref L4, .ref p5])) S (.lst [V.ref p1, .ref p2, .ref p3, .ref L4, .ref p5]))
    generalize upd (upd H8 S2 (.lst [V.ref p3, .ref L4, .ref p5])) S (.lst [V.ref p1, .ref p2, .ref p3, .ref L4, .ref p5]) = H9 at s39 eS e1 e2 e3 e5 eL49 D9 wu9 ⊢
    have hX := (xl3.same s39).ls
    have sTr : ∀ {us : List Str} {Hz : Hp}, DqAll K (fun _ => False) Hz (us.map V.str) (us.map PyData.str) := fun {us Hz} => dqAll_strsW us
    have xs : ∀ x ∈ ([V.ref p1, .ref p2, .ref p3, .ref L4, .ref p5] : List V), X14 K X H9 x := by
      intro x hx
      simp only [List.mem_cons, List.not_mem_nil, or_false] at hx
      have sub : ∀ {us : List Str}, (∀ y ∈ us, y ∈ ws) → ∀ y ∈ us, IsW y := fun h y hy => hw y (h y hy)
      rcases hx with rfl | rfl | rfl | rfl | rfl
      · rw [← List.map_take, ← List.map_drop] at e1
        refine x14_tup (ds := (ws.take j).map PyData.str ++ [du] ++ (ws.drop (j + 1)).map PyData.str) hX e1 (fun H' p => (sTr.append (.cons (wu9.dq H' p) .nil)).append sTr) (fun y hy => ?_) ?_
        · rcases List.mem_append.mp hy with hy | hy
          · rcases List.mem_append.mp hy with hy | hy
            · exact words_s14 (sub fun z hz => List.mem_of_mem_take hz) y hy
            · rw [List.mem_singleton.mp hy]; exact hdu
          · exact words_s14 (sub fun z hz => List.mem_of_mem_drop hz) y hy
        · rw [List.length_append, List.length_append, List.length_map, List.length_map, List.length_take, List.length_drop, List.length_singleton]; omega
      · rw [← List.map_take, ← List.map_drop, ← List.map_append] at e2
        refine (w14_of hX e2 rfl (sub fun z hz => ?_)).x (by rw [List.length_append, List.length_take, List.length_drop]; omega)
        exact (List.mem_append.mp hz).elim List.mem_of_mem_take List.mem_of_mem_drop
      · rw [← List.map_drop, ← List.map_take, ← List.map_append] at e3
        refine (w14_of hX e3 rfl (sub fun z hz => ?_)).x (by rw [List.length_append, List.length_take, List.length_drop]; omega)
        exact (List.mem_append.mp hz).elim id fun h => List.mem_of_mem_drop (List.mem_of_mem_take h)
      · exact ⟨_, vw_lst xL4 eL49 zL4 (fun H' p => sTr) ((d14_lst (words_s14 hw) (by rw [List.length_map]; omega)).sh.mono (by decide) (by decide)), d14_lst (words_s14 hw) (by rw [List.length_map]; omega)⟩
      · rw [← List.map_reverse] at e5
        exact (w14_of hX e5 rfl (sub fun z hz => List.mem_reverse.mp hz)).x (by rw [List.length_reverse]; omega)
    refine gs_retQ ⟨.ref S, rfl, .ref a, rfl, a, c, r, m, 5, rfl, D9, by decide, by decide, fun HZ y bZ DZ y0 y5 => ?_⟩
    have oS : S ≠ a ∧ S ≠ r := nX (s35.trans (s68.trans sS2)) nS
    obtain ⟨i, rfl⟩ : ∃ i : Nat, y = (i : Int) := ⟨y.toNat, (Int.toNat_of_nonneg y0).symm⟩
    have hi : i < ([V.ref p1, .ref p2, .ref p3, .ref L4, .ref p5] : List V).length := by show i < 5; omega
    have bAll : But a r H HZ := b1.trans (b2.trans ((But.of (same_new nql)).trans (b3.trans ((But.of s39).trans bZ))))
    exact ⟨S, _, _, _, rfl, rfl, .inl (.inl (bZ _ _ oS.1 oS.2 eS)), atI_nat (List.getElem?_eq_getElem hi), q HZ _ bAll DZ ((xs _ (List.getElem_mem hi)).per (Per.but xl.xa xl.xr bZ))⟩
end
end K14
/-! When a tuple of words is the effect of a row: rounds, releases of same, and gathering. Two buttons more make the ones with same held. -/
namespace Pr
open PySem PySem.Spec PyProof.Rows L2
section
variable {pan : List (List Int)} {w : List Str}
/-- releases none with same -/
def FreeS (pan : List (List Int)) (w : List Str) (h : Int) : Prop := ∀ c ∈ pan.getD h.toNat [], eAt w c ≠ wSame
/-- presses from which others are gathered -/
def HelpS (pan : List (List Int)) (w : List Str) (F : List Int) (h : Int) : Prop := ((0 ≤ h ∧ h < (pan.length : Int)) ∧ eAt w h = wOn) ∨ (h ∈ F ∧ FreeS pan w h)
structure GathS (pan : List (List Int)) (w : List Str) (F : List Int) : Prop where
  nd : F.Nodup
  off : ∀ f ∈ F, (0 ≤ f ∧ f < (pan.length : Int)) ∧ eAt w f = wOff
  clos : ∀ h, HelpS pan w F h → ∀ c ∈ pan.getD h.toNat [], eAt w c = wOff → c ∈ F
  sound : ∀ P : Int → Prop, (∀ h c, (((0 ≤ h ∧ h < (pan.length : Int)) ∧ eAt w h = wOn) ∨ (P h ∧ FreeS pan w h)) → c ∈ pan.getD h.toNat [] → eAt w c = wOff → P c) → ∀ f ∈ F, P f
def onS (pan : List (List Int)) (w : List Str) : List Int := (intL pan.length).filter fun c => decide (eAt w c = wOn)
def offS (pan : List (List Int)) (w : List Str) : List Int := (intL pan.length).filter fun c => decide (eAt w c = wOff)
theorem mem_onS {c : Int} : c ∈ onS pan w ↔ (0 ≤ c ∧ c < (pan.length : Int)) ∧ eAt w c = wOn := by
  unfold onS; rw [List.mem_filter, mem_intL, decide_eq_true_eq]
theorem mem_offS {c : Int} : c ∈ offS pan w ↔ (0 ≤ c ∧ c < (pan.length : Int)) ∧ eAt w c = wOff := by
  unfold offS; rw [List.mem_filter, mem_intL, decide_eq_true_eq]
theorem onS_asc : Asc pan.length (onS pan w) := ⟨(Asc.full _).up.filter _, fun x hx => (mem_onS.mp hx).1⟩
structure CondS (pan : List (List Int)) (w : List Str) (F : List Int) : Prop where
  held : IsHeld pan (onS pan w) []
  free : ∀ b ∈ onS pan w, FreeS pan w b
  all : ∀ f ∈ offS pan w, f ∈ F
/-! the panel with two buttons more -/
def extP (pan : List (List Int)) (w : List Str) : List (List Int) := ((List.range pan.length).map fun x : Nat => if eAt w (x : Int) = wSame then [(pan.length : Int)] else pan.getD x []) ++ [[((pan.length + 1 : Nat) : Int)], [(pan.length : Int)]]
def goalX (pan : List (List Int)) (w : List Str) : List Int := (intL (pan.length + 2)).filter fun c => decide ((pan.length : Int) ≤ c ∨ eAt w c ≠ wOff)
theorem extP_len : (extP pan w).length = pan.length + 2 := by unfold extP; rw [List.length_append, List.length_map, List.length_range]; rfl
theorem mem_goalX {c : Int} : c ∈ goalX pan w ↔ (0 ≤ c ∧ c < ((pan.length + 2 : Nat) : Int)) ∧ ((pan.length : Int) ≤ c ∨ eAt w c ≠ wOff) := by
  unfold goalX; rw [List.mem_filter, mem_intL, decide_eq_true_eq]
theorem extP_rel {x : Nat} (hx : x < pan.length) : (extP pan w).getD x [] = if eAt w (x : Int) = wSame then [(pan.length : Int)] else pan.getD x [] := by
  unfold extP
  rw [List.getD_eq_getElem?_getD, List.getElem?_append_left (by rw [List.length_map, List.length_range]; exact hx), List.getElem?_map, List.getElem?_range hx]; rfl
theorem extP_n : (extP pan w).getD pan.length [] = [((pan.length + 1 : Nat) : Int)] := by
  unfold extP
  rw [List.getD_eq_getElem?_getD, List.getElem?_append_right (by rw [List.length_map, List.length_range]; exact Nat.le_refl _), List.length_map, List.length_range, Nat.sub_self]; rfl
theorem extP_n1 : (extP pan w).getD (pan.length + 1) [] = [(pan.length : Int)] := by
  unfold extP
  rw [List.getD_eq_getElem?_getD, List.getElem?_append_right (by rw [List.length_map, List.length_range]; omega), List.length_map, List.length_range, show pan.length + 1 - pan.length = 1 by omega]; rfl
theorem extP_relI {c : Int} (h0 : 0 ≤ c) (h1 : c < (pan.length : Int)) (hs : eAt w c ≠ wSame) : (extP pan w).getD c.toNat [] = pan.getD c.toNat [] := by
  rw [extP_rel (by omega), Int.toNat_of_nonneg h0, if_neg hs]
theorem extP_relS {c : Int} (h0 : 0 ≤ c) (h1 : c < (pan.length : Int)) (hs : eAt w c = wSame) : (extP pan w).getD c.toNat [] = [(pan.length : Int)] := by
  rw [extP_rel (by omega), Int.toNat_of_nonneg h0, if_pos hs]
theorem rel_rng (g : Good pan) {x : Nat} {c : Int} (hc : c ∈ pan.getD x []) : 0 ≤ c ∧ c < (pan.length : Int) := by
  rw [List.getD_eq_getElem?_getD] at hc
  cases e : pan[x]? with
  | none => rw [e] at hc; cases hc
  | some l => rw [e] at hc; exact g.rng l (List.mem_of_getElem? e) c hc
theorem goodX (g : Good pan) (h8 : pan.length ≤ 8) : Good (extP pan w) := by
  have hl := extP_len (pan := pan) (w := w)
  have key : ∀ (x : Nat) (l : List Int), (extP pan w)[x]? = some l → l.Pairwise (· < ·) ∧ (∀ c ∈ l, 0 ≤ c ∧ c < ((pan.length + 2 : Nat) : Int)) ∧ (x : Int) ∉ l := fun x l hx => by
    have hxl : x < pan.length + 2 := by have := (List.getElem?_eq_some_iff.mp hx).1; omega
    have el : l = (extP pan w).getD x [] := by rw [List.getD_eq_getElem?_getD, hx]; rfl
    rcases Nat.lt_or_ge x pan.length with h | h
    · rw [extP_rel h] at el
      split at el
      · subst el
        refine ⟨List.pairwise_singleton _ _, fun c hc => ?_, fun hc => ?_⟩
        · rw [List.mem_singleton.mp hc]; omega
        · have := List.mem_singleton.mp hc; omega
      · have e2 : pan[x]? = some l := by
          rw [el, List.getD_eq_getElem?_getD, List.getElem?_eq_getElem h]; rfl
        refine ⟨g.up l (List.mem_of_getElem? e2), fun c hc => ?_, g.own x l e2⟩
        have := g.rng l (List.mem_of_getElem? e2) c hc
        omega
    · have : x = pan.length ∨ x = pan.length + 1 := by omega
      rcases this with rfl | rfl
      · rw [extP_n] at el
        subst el
        refine ⟨List.pairwise_singleton _ _, fun c hc => ?_, fun hc => ?_⟩
        · rw [List.mem_singleton.mp hc]; omega
        · have := List.mem_singleton.mp hc; omega
      · rw [extP_n1] at el
        subst el
        refine ⟨List.pairwise_singleton _ _, fun c hc => ?_, fun hc => ?_⟩
        · rw [List.mem_singleton.mp hc]; omega
        · have := List.mem_singleton.mp hc; omega
  refine ⟨by omega, by omega, fun l hl' => ?_, fun l hl' c hc => ?_, fun i l hi => (key i l hi).2.2⟩
  · obtain ⟨i, hi⟩ := List.getElem?_of_mem hl'
    exact (key i l hi).1
  · obtain ⟨i, hi⟩ := List.getElem?_of_mem hl'
    rw [hl]
    exact (key i l hi).2.1 c hc
theorem goalX_asc : Asc (extP pan w).length (goalX pan w) := ⟨(Asc.full _).up.filter _, fun x hx => by rw [extP_len]; exact (mem_goalX.mp hx).1⟩
theorem foldl_rel {p q : List (List Int)} {c : Int} : ∀ (row : List Int) (z : Str), (∀ b ∈ row, p.getD b.toNat [] = q.getD b.toNat []) → row.foldl (wordM p c) z = row.foldl (wordM q c) z
  | [], _, _ => rfl
  | b :: r, z, h => by
    rw [List.foldl_cons, List.foldl_cons]
    have e : wordM p c z b = wordM q c z b := by unfold wordM; rw [h b List.mem_cons_self]
    rw [e]
    exact foldl_rel r _ fun b hb => h b (List.mem_cons_of_mem _ hb)
theorem words_on {p : List (List Int)} {c : Int} : ∀ (row : List Int) (z : Str), row.foldl (wordM p c) z = wOn → c ∈ row ∨ z = wOn
  | [], _, h => .inr h
  | b :: r, z, h => by
    rcases words_on r _ h with h1 | h1
    · exact .inl (List.mem_cons_of_mem _ h1)
    · unfold wordM at h1
      by_cases e : b = c
      · exact .inl (e ▸ List.mem_cons_self)
      · rw [if_neg e] at h1
        split at h1
        · exact absurd h1 (by decide)
        · exact .inr h1
theorem words_off {p : List (List Int)} {c : Int} : ∀ (row : List Int) (z : Str), row.foldl (wordM p c) z = wOff → (∃ b ∈ row, c ∈ p.getD b.toNat []) ∨ z = wOff
  | [], _, h => .inr h
  | b :: r, z, h => by
    rcases words_off r _ h with ⟨x, h1, h2⟩ | h1
    · exact .inl ⟨x, List.mem_cons_of_mem _ h1, h2⟩
    · unfold wordM at h1
      by_cases e : b = c
      · rw [if_pos e] at h1
        exact absurd h1 (by decide)
      · rw [if_neg e] at h1
        split at h1
        · rename_i hc
          exact .inl ⟨b, List.mem_cons_self, hc⟩
        · exact .inr h1
/-- the held ones: those with same, and the two more -/
theorem heldX {hs : List Int} (hh : IsHeld (extP pan w) (goalX pan w) hs) : (∀ z : Int, 0 ≤ z → z < (pan.length : Int) → eAt w z = wSame → z ∈ hs) ∧ (pan.length : Int) ∈ hs ∧ ((pan.length + 1 : Nat) : Int) ∈ hs := by
  have key : ∀ x ∈ ((intL (pan.length + 2)).filter fun c => decide ((pan.length : Int) ≤ c ∨ eAt w c = wSame)), x ∈ hs := by
    have mm : ∀ {c : Int}, c ∈ ((intL (pan.length + 2)).filter fun c => decide ((pan.length : Int) ≤ c ∨ eAt w c = wSame)) ↔ (0 ≤ c ∧ c < ((pan.length + 2 : Nat) : Int)) ∧ ((pan.length : Int) ≤ c ∨ eAt w c = wSame) := fun {c} => by rw [List.mem_filter, mem_intL, decide_eq_true_eq]
    refine hh.most _ (fun b hb => ?_) fun x hx => ?_
    · obtain ⟨hr, hz⟩ := mm.mp hb
      rcases Int.lt_or_le b (pan.length : Int) with h | h
      · have hz : eAt w b = wSame := hz.resolve_left (by omega)
        exact ⟨(pan.length : Int), by rw [extP_relS hr.1 h hz]; exact List.mem_singleton.mpr rfl, mm.mpr ⟨by omega, .inl (Int.le_refl _)⟩⟩
      · have : b = (pan.length : Int) ∨ b = ((pan.length + 1 : Nat) : Int) := by omega
        rcases this with rfl | rfl
        · exact ⟨((pan.length + 1 : Nat) : Int), by rw [Int.toNat_natCast, extP_n]; exact List.mem_singleton.mpr rfl, mm.mpr ⟨by omega, .inl (by omega)⟩⟩
        · exact ⟨(pan.length : Int), by rw [Int.toNat_natCast, extP_n1]; exact List.mem_singleton.mpr rfl, mm.mpr ⟨by omega, .inl (Int.le_refl _)⟩⟩
    · obtain ⟨hr, hz⟩ := mm.mp hx
      refine mem_goalX.mpr ⟨hr, hz.imp_right fun h => ?_⟩
      rw [h]; decide
  refine ⟨fun z h0 h1 hz => key z ?_, key _ ?_, key _ ?_⟩
  · rw [List.mem_filter, mem_intL, decide_eq_true_eq]; exact ⟨by omega, .inr hz⟩
  · rw [List.mem_filter, mem_intL, decide_eq_true_eq]; exact ⟨by omega, .inl (Int.le_refl _)⟩
  · rw [List.mem_filter, mem_intL, decide_eq_true_eq]; exact ⟨by omega, .inl (by omega)⟩
theorem goalX_hold : Hold (extP pan w) (goalX pan w) (goalX pan w) := ⟨goalX_asc.up, fun _ h => h, fun C _ h => h⟩
/-- conditions from a row -/
theorem cond_of (g : Good pan) (h8 : pan.length ≤ 8) {row F : List Int} (hr : InRow pan row) (he : effM pan row = w) (hF : GathS pan w F) : CondS pan w F := by
  have hw : w.length = pan.length := by rw [← he]; exact effM_len pan row
  have hat : ∀ c : Int, 0 ≤ c → c < (pan.length : Int) → eAt w c = wordsM pan row c := fun c h0 h1 => by
    obtain ⟨k, rfl⟩ : ∃ k : Nat, c = (k : Int) := ⟨c.toNat, (Int.toNat_of_nonneg h0).symm⟩
    have h2 := eff_get (pan := pan) (row := row) (c := k) (by omega)
    rw [he, eAt_get hw (by omega)] at h2
    exact Option.some.inj h2
  have gx := goodX (w := w) g h8
  obtain ⟨hs, hh⟩ := held_ex (goalX_hold (pan := pan) (w := w))
  obtain ⟨G, hG⟩ := gath_ex (hs := hs) gx (goalX_asc (pan := pan) (w := w))
  obtain ⟨z1, z2, z3⟩ := heldX hh
  have rowS : ∀ b ∈ row, eAt w b ≠ wSame := fun b hb => by
    rw [hat b (hr b hb).1 (hr b hb).2]
    exact fun z => words_iff.mp z (.inl hb)
  have relS : ∀ b ∈ row, ∀ c ∈ pan.getD b.toNat [], eAt w c ≠ wSame := fun b hb c hc => by
    have := rel_rng g hc
    rw [hat c this.1 this.2]
    exact fun z => words_iff.mp z (.inr ⟨b, hb, hc⟩)
  have relE : ∀ b ∈ row, (extP pan w).getD b.toNat [] = pan.getD b.toNat [] := fun b hb => extP_relI (hr b hb).1 (hr b hb).2 (rowS b hb)
  have inX : ∀ b ∈ row, InP (extP pan w) b := fun b hb => ⟨(hr b hb).1, by rw [extP_len]; have := (hr b hb).2; omega⟩
  have run : runM (extP pan w) (goalX pan w) row = goalX pan w := by
    refine asc_ext (runM_asc goalX_asc).up goalX_asc.up fun c => ?_
    by_cases hc : 0 ≤ c ∧ c < ((extP pan w).length : Int)
    · rw [memRun hc.1 hc.2]
      have e1 : wordsM (extP pan w) row c = wordsM pan row c := foldl_rel row wSame relE
      rw [e1]
      rcases Int.lt_or_le c (pan.length : Int) with h | h
      · rw [← hat c hc.1 h, mem_goalX]
        rw [extP_len] at hc
        constructor
        · rintro (h1 | h1)
          · exact ⟨hc, .inr (by rw [h1]; decide)⟩
          · exact h1.2
        · rintro ⟨_, h1 | h1⟩
          · omega
          · rw [hat c hc.1 h] at h1 ⊢
            rcases word3 pan c row with h2 | h2 | h2
            · exact .inr ⟨h2, hc, .inr h1⟩
            · exact .inl h2
            · exact absurd h2 h1
      · have hno : wordsM pan row c = wSame := words_iff.mpr fun z => by
          rcases z with z | ⟨b, _, z⟩
          · have := hr c z; omega
          · have := rel_rng g z; omega
        rw [hno]
        exact ⟨fun z => z.elim (fun z => absurd z (by decide)) fun z => z.2, fun z => .inr ⟨rfl, z⟩⟩
    · constructor
      · exact fun z => absurd ((runM_asc goalX_asc).rng c z) hc
      · exact fun z => absurd (goalX_asc.rng c z) hc
  have ok := row_ok gx.own hh hG inX run
  have onRow : ∀ b ∈ onS pan w, b ∈ row := fun b hb => by
    obtain ⟨hbr, hbo⟩ := mem_onS.mp hb
    rw [hat b hbr.1 hbr.2] at hbo
    exact (words_on row wSame hbo).resolve_right (by decide)
  have onFree : ∀ b ∈ onS pan w, b ∉ hs := fun b hb => by
    have hg : b ∈ goalX pan w := mem_goalX.mpr ⟨by have := (mem_onS.mp hb).1; omega, .inr (by rw [(mem_onS.mp hb).2]; decide)⟩
    rcases ok b (onRow b hb) with h | h
    · exact h.2
    · exact absurd hg (hG.out b h.1)
  have stepX : ∀ f ∈ G, ∀ b, PrOk (extP pan w) (goalX pan w) hs G b → f ∈ (extP pan w).getD b.toNat [] → (b ∈ G → b ∈ F) → f ∈ F := fun f hf b pb hb hbF => by
    have outG : ∀ x ∈ G, (0 ≤ x ∧ x < (pan.length : Int)) ∧ eAt w x = wOff := fun x hx => by
      have h1 := hG.rng x hx
      have h2 := hG.out x hx
      unfold InP at h1
      rw [extP_len] at h1
      have h3 : ¬ ((pan.length : Int) ≤ x ∨ eAt w x ≠ wOff) := fun z => h2 (mem_goalX.mpr ⟨h1, z⟩)
      refine ⟨?_, Classical.byContradiction fun z => h3 (.inr z)⟩
      have : ¬ (pan.length : Int) ≤ x := fun z => h3 (.inl z)
      omega
    have hfo := outG f hf
    rcases pb with ⟨p1, p2⟩ | ⟨p1, p2⟩
    · obtain ⟨q1, q2⟩ := mem_goalX.mp p1
      have hlt : b < (pan.length : Int) := by
        rcases Int.lt_or_le b (pan.length : Int) with h | h
        · exact h
        · have : b = (pan.length : Int) ∨ b = ((pan.length + 1 : Nat) : Int) := by omega
          rcases this with e | e
          · exact absurd (e ▸ z2) p2
          · exact absurd (e ▸ z3) p2
      have hns : eAt w b ≠ wSame := fun z => p2 (z1 b q1.1 hlt z)
      have hno : eAt w b ≠ wOff := q2.resolve_left (by omega)
      have hon : eAt w b = wOn := by
        have := hat b q1.1 hlt
        rcases word3 pan b row with h | h | h
        · rw [h] at this; exact absurd this hns
        · rw [h] at this; exact this
        · rw [h] at this; exact absurd this hno
      rw [extP_relI q1.1 hlt hns] at hb
      exact hF.clos b (.inl ⟨⟨q1.1, hlt⟩, hon⟩) f hb hfo.2
    · have hbo := outG b p1
      have hns : eAt w b ≠ wSame := by rw [hbo.2]; decide
      rw [extP_relI hbo.1.1 hbo.1.2 hns] at hb
      refine hF.clos b (.inr ⟨hbF p1, fun c hc z => ?_⟩) f hb hfo.2
      have hcr := rel_rng g hc
      exact p2 c (by show c ∈ (extP pan w).getD b.toNat []; rw [extP_relI hbo.1.1 hbo.1.2 hns]; exact hc) (z1 c hcr.1 hcr.2 z)
  have GF : ∀ f ∈ G, f ∈ F := by
    obtain ⟨r, _, hrk⟩ := hG.rank
    have key : ∀ m : Nat, ∀ f ∈ G, r f ≤ m → f ∈ F := by
      intro m
      induction m with
      | zero =>
        intro f hf hm
        obtain ⟨b, pb, hb, hb2⟩ := hrk f hf
        rcases hb2 with h | h
        · exact stepX f hf b pb hb (fun z => absurd h (hG.out b z))
        · omega
      | succ m ih =>
        intro f hf hm
        obtain ⟨b, pb, hb, hb2⟩ := hrk f hf
        refine stepX f hf b pb hb fun z => ?_
        rcases hb2 with h | h
        · exact absurd h (hG.out b z)
        · exact ih b z (by omega)
    exact fun f hf => key (r f) f hf (Nat.le_refl _)
  refine ⟨⟨.nil, fun _ h => (by cases h), fun _ h => (by cases h), fun C hC hsub x hx => ?_⟩, fun b hb c hc => relS b (onRow b hb) c hc, fun f hf => ?_⟩
  · have hxs : x ∈ hs := hh.most C (fun b hb => by
      have h1 := mem_onS.mp (hsub b hb)
      obtain ⟨c, c1, c2⟩ := hC b hb
      exact ⟨c, by rw [extP_relI h1.1.1 h1.1.2 (by rw [h1.2]; decide)]; exact c1, c2⟩) (fun b hb => by
      have h1 := mem_onS.mp (hsub b hb)
      exact mem_goalX.mpr ⟨by omega, .inr (by rw [h1.2]; decide)⟩) x hx
    exact absurd hxs (onFree x (hsub x hx))
  · obtain ⟨hfr, hfo⟩ := mem_offS.mp hf
    have h1 := hfo
    rw [hat f hfr.1 hfr.2] at h1
    obtain ⟨b, hb, hc⟩ := (words_off row wSame h1).resolve_right (by decide)
    refine GF f (hG.clos b (ok b hb) f (by show f ∈ (extP pan w).getD b.toNat []; rw [relE b hb]; exact hc) fun z => ?_)
    rcases (mem_goalX.mp z).2 with h2 | h2
    · omega
    · exact h2 hfo

/-- a row from the conditions -/
theorem row_of (g : Good pan) (h8 : pan.length ≤ 8) (hw : w.length = pan.length) (h3 : ∀ x ∈ w, IsW x) {F : List Int} (hF : GathS pan w F) (hc : CondS pan w F) : ∃ row, InRow pan row ∧ effM pan row = w := by
  have gx := goodX (w := w) g h8
  obtain ⟨hs, hh⟩ := held_ex (goalX_hold (pan := pan) (w := w))
  obtain ⟨G, hG⟩ := gath_ex (hs := hs) gx (goalX_asc (pan := pan) (w := w))
  obtain ⟨z1, z2, z3⟩ := heldX hh
  have e3 : ∀ c : Int, 0 ≤ c → c < (pan.length : Int) → eAt w c = wSame ∨ eAt w c = wOn ∨ eAt w c = wOff := fun c h0 h1 => by
    obtain ⟨k, rfl⟩ : ∃ k : Nat, c = (k : Int) := ⟨c.toNat, (Int.toNat_of_nonneg h0).symm⟩
    exact h3 _ (List.mem_of_getElem? (eAt_get hw (by omega)))
  have noOn : ∀ b ∈ onS pan w, b ∉ hs := fun b hb hbs => by
    have := hc.held.most (hs.filter fun x => decide (x ∈ onS pan w)) (fun x hx => ?_) (fun x hx => ?_) b (List.mem_filter.mpr ⟨hbs, decide_eq_true hb⟩)
    · cases this
    · obtain ⟨x1, x2⟩ := List.mem_filter.mp hx
      have x3 := of_decide_eq_true x2
      have x4 := mem_onS.mp x3
      obtain ⟨c, c1, c2⟩ := hh.closed x x1
      rw [extP_relI x4.1.1 x4.1.2 (by rw [x4.2]; decide)] at c1
      have cr := rel_rng g c1
      have cg := (mem_goalX.mp (hh.sub c c2)).2.resolve_left (by omega)
      have cs := hc.free x x3 c c1
      have co : eAt w c = wOn := by
        rcases e3 c cr.1 cr.2 with h | h | h
        · exact absurd h cs
        · exact h
        · exact absurd h cg
      exact ⟨c, c1, List.mem_filter.mpr ⟨c2, decide_eq_true (mem_onS.mpr ⟨cr, co⟩)⟩⟩
    · exact of_decide_eq_true (List.mem_filter.mp hx).2
  have outG : ∀ x ∈ G, (0 ≤ x ∧ x < (pan.length : Int)) ∧ eAt w x = wOff := fun x hx => by
    have h1 := hG.rng x hx
    have h2 := hG.out x hx
    unfold InP at h1
    rw [extP_len] at h1
    have h3 : ¬ ((pan.length : Int) ≤ x ∨ eAt w x ≠ wOff) := fun z => h2 (mem_goalX.mpr ⟨h1, z⟩)
    refine ⟨?_, Classical.byContradiction fun z => h3 (.inr z)⟩
    have : ¬ (pan.length : Int) ≤ x := fun z => h3 (.inl z)
    omega
  have FG : ∀ f ∈ F, f ∈ G := hF.sound (fun x => x ∈ G) fun h c hhc hcr hoff => by
    have cr := rel_rng g hcr
    have cout : c ∉ goalX pan w := fun z => (mem_goalX.mp z).2.elim (fun y => by omega) fun y => y hoff
    rcases hhc with ⟨hr, hon⟩ | ⟨hg', hfr⟩
    · refine hG.clos h (.inl ⟨mem_goalX.mpr ⟨by omega, .inr (by rw [hon]; decide)⟩, noOn h (mem_onS.mpr ⟨hr, hon⟩)⟩) c ?_ cout
      show c ∈ (extP pan w).getD h.toNat []
      rw [extP_relI hr.1 hr.2 (by rw [hon]; decide)]; exact hcr
    · have ho := outG h hg'
      have er : (extP pan w).getD h.toNat [] = pan.getD h.toNat [] := extP_relI ho.1.1 ho.1.2 (by rw [ho.2]; decide)
      refine hG.clos h (.inr ⟨hg', fun x hx hxs => ?_⟩) c (by show c ∈ (extP pan w).getD h.toNat []; rw [er]; exact hcr) cout
      have hx : x ∈ pan.getD h.toNat [] := by rw [← er]; exact hx
      have xr := rel_rng g hx
      have xg := (mem_goalX.mp (hh.sub x hxs)).2.resolve_left (by omega)
      rcases e3 x xr.1 xr.2 with y | y | y
      · exact hfr x hx y
      · exact noOn x (mem_onS.mpr ⟨xr, y⟩) hxs
      · exact xg y
  obtain ⟨row, hr, he⟩ := tow_some gx hh hG goalX_asc
  have hX : (extP pan w).length = pan.length + 2 := extP_len
  have tw : ∀ c : Int, 0 ≤ c → c < ((pan.length + 2 : Nat) : Int) → wordsM (extP pan w) row c = if c ∈ goalX pan w ∧ c ∉ hs then wOn else if c ∈ G then wOff else wSame := fun c h0 h1 => by
    obtain ⟨k, rfl⟩ : ∃ k : Nat, c = (k : Int) := ⟨c.toNat, (Int.toNat_of_nonneg h0).symm⟩
    exact tow_get (by omega) he
  have rowOk : ∀ b ∈ row, (0 ≤ b ∧ b < (pan.length : Int)) ∧ eAt w b ≠ wSame := fun b hb => by
    have hbr := hr b hb
    unfold InP at hbr
    rw [hX] at hbr
    have ne : wordsM (extP pan w) row b ≠ wSame := fun z => words_iff.mp z (.inl hb)
    rw [tw b hbr.1 hbr.2] at ne
    have hlt : b < (pan.length : Int) := by
      rcases Int.lt_or_le b (pan.length : Int) with h | h
      · exact h
      · exfalso
        have hbs : b ∈ hs := by
          have : b = (pan.length : Int) ∨ b = ((pan.length + 1 : Nat) : Int) := by omega
          rcases this with e | e
          · exact e ▸ z2
          · exact e ▸ z3
        rw [if_neg (fun z => z.2 hbs), if_neg (fun z => by have := (outG b z).1; omega)] at ne
        exact ne rfl
    refine ⟨⟨hbr.1, hlt⟩, fun hz => ?_⟩
    have hbs := z1 b hbr.1 hlt hz
    rw [if_neg (fun z => z.2 hbs), if_neg (fun z => by have := (outG b z).2; rw [hz] at this; exact absurd this (by decide))] at ne
    exact ne rfl
  have relE : ∀ b ∈ row, pan.getD b.toNat [] = (extP pan w).getD b.toNat [] := fun b hb => (extP_relI (rowOk b hb).1.1 (rowOk b hb).1.2 (rowOk b hb).2).symm
  refine ⟨row, fun b hb => (rowOk b hb).1, List.ext_getElem? fun c => ?_⟩
  rcases Nat.lt_or_ge c pan.length with hlt | hge
  · rw [eff_get hlt, eAt_get hw hlt]
    congr 1
    have e1 : wordsM pan row (c : Int) = wordsM (extP pan w) row (c : Int) := foldl_rel row wSame relE
    rw [e1, tw (c : Int) (by omega) (by omega)]
    rcases e3 (c : Int) (by omega) (by omega) with h | h | h
    · rw [if_neg (fun z => z.2 (z1 (c : Int) (by omega) (by omega) h)), if_neg (fun z => by have := (outG (c : Int) z).2; rw [h] at this; exact absurd this (by decide)), h]
    · rw [if_pos ⟨mem_goalX.mpr ⟨by omega, .inr (by rw [h]; decide)⟩, noOn (c : Int) (mem_onS.mpr ⟨by omega, h⟩)⟩, h]
    · rw [if_neg (fun z => (mem_goalX.mp z.1).2.elim (fun y => by omega) fun y => y h), if_pos (FG (c : Int) (hc.all (c : Int) (mem_offS.mpr ⟨by omega, h⟩))), h]
  · rw [List.getElem?_eq_none (by rw [effM_len]; exact hge), List.getElem?_eq_none (by omega)]
end
end Pr
/-! How the law gathers; all tuples of words. -/
namespace Pr
open PySem PySem.Spec PyProof.Rows L2
theorem nodup_snocI {r : List Int} {b : Int} (h : r.Nodup) (hb : b ∉ r) : (r ++ [b]).Nodup := by
  rw [List.nodup_append]
  refine ⟨h, by simp, fun x hx y hy e => ?_⟩
  rw [List.mem_singleton] at hy
  exact hb (by rw [← hy, ← e]; exact hx)
structure GI (pan : List (List Int)) (w : List Str) (F L : List Int) (t : Nat) (D : List Int) : Prop where
  nd : F.Nodup
  off : ∀ f ∈ F, (0 ≤ f ∧ f < (pan.length : Int)) ∧ eAt w f = wOff
  helpL : ∀ h ∈ L, HelpS pan w F h
  hasL : ∀ h, HelpS pan w F h → h ∈ L
  ndL : L.Nodup
  done : ∀ (i : Nat) (h : Int), i < t → L[i]? = some h → ∀ c ∈ pan.getD h.toNat [], eAt w c = wOff → c ∈ F
  cur : ∀ c ∈ D, eAt w c = wOff → c ∈ F
  sound : ∀ P : Int → Prop, (∀ h c, (((0 ≤ h ∧ h < (pan.length : Int)) ∧ eAt w h = wOn) ∨ (P h ∧ FreeS pan w h)) → c ∈ pan.getD h.toNat [] → eAt w c = wOff → P c) → ∀ f ∈ F, P f
  le : t ≤ L.length
section
variable {pan : List (List Int)} {w : List Str} {F L D : List Int} {t : Nat}
theorem GI.rngL (g : GI pan w F L t D) : ∀ h ∈ L, 0 ≤ h ∧ h < (pan.length : Int) := fun h hh => by
  rcases g.helpL h hh with ⟨h1, _⟩ | ⟨h1, _⟩
  · exact h1
  · exact (g.off h h1).1
theorem GI.lenL (g : GI pan w F L t D) : L.length ≤ pan.length := nodup_few pan.length L g.ndL g.rngL
theorem GI.lenF (g : GI pan w F L t D) : F.length ≤ pan.length := nodup_few pan.length F g.nd fun x hx => (g.off x hx).1
theorem GI.init : GI pan w [] (onS pan w) 0 [] := ⟨List.nodup_nil, (fun _ h => by cases h), (fun h hh => .inl (mem_onS.mp hh)), (fun h hh => by
  rcases hh with h1 | ⟨h1, _⟩
  · exact mem_onS.mpr h1
  · cases h1), onS_asc.up.imp (fun {a b} (h : a < b) => Int.ne_of_lt h), (fun i h hi => by omega), (fun _ h => by cases h), (fun _ _ _ h => by cases h), Nat.zero_le _⟩
theorem GI.skip (g : GI pan w F L t D) {c : Int} (hc : eAt w c = wOff → c ∈ F) : GI pan w F L t (D ++ [c]) := ⟨g.nd, g.off, g.helpL, g.hasL, g.ndL, g.done, (fun x hx => by
  rcases List.mem_append.mp hx with h | h
  · exact g.cur x h
  · rw [List.mem_singleton.mp h]; exact hc), g.sound, g.le⟩
theorem GI.add (g : GI pan w F L t D) {h c : Int} (hh : h ∈ L) (hr : c ∈ pan.getD h.toNat []) (hcr : 0 ≤ c ∧ c < (pan.length : Int)) (ho : eAt w c = wOff) (hn : c ∉ F) {L' : List Int} (hL : (FreeS pan w c ∧ L' = L ++ [c]) ∨ (¬ FreeS pan w c ∧ L' = L)) : GI pan w (F ++ [c]) L' t (D ++ [c]) := by
  have up : ∀ {x : Int}, HelpS pan w F x → HelpS pan w (F ++ [c]) x := fun hx => hx.imp_right fun ⟨h1, h2⟩ => ⟨List.mem_append_left _ h1, h2⟩
  have sub : ∀ x ∈ L, x ∈ L' := fun x hx => by
    rcases hL with ⟨_, e⟩ | ⟨_, e⟩
    · rw [e]; exact List.mem_append_left _ hx
    · rw [e]; exact hx
  have pre : ∀ i, i < L.length → L'[i]? = L[i]? := fun i hi => by
    rcases hL with ⟨_, e⟩ | ⟨_, e⟩
    · rw [e, List.getElem?_append_left hi]
    · rw [e]
  have cL : c ∉ L := fun z => by
    rcases g.helpL c z with ⟨_, h1⟩ | ⟨h1, _⟩
    · rw [h1] at ho; exact absurd ho (by decide)
    · exact hn h1
  refine ⟨nodup_snocI g.nd hn, fun f hf => ?_, fun x hx => ?_, fun x hx => ?_, ?_, fun i x hi hx => ?_, fun x hx => ?_, fun P hP f hf => ?_, ?_⟩
  · rcases List.mem_append.mp hf with h1 | h1
    · exact g.off f h1
    · rw [List.mem_singleton.mp h1]; exact ⟨hcr, ho⟩
  · rcases hL with ⟨h1, e⟩ | ⟨h1, e⟩
    · rw [e] at hx
      rcases List.mem_append.mp hx with h2 | h2
      · exact up (g.helpL x h2)
      · rw [List.mem_singleton.mp h2]; exact .inr ⟨List.mem_append_right _ (List.mem_singleton.mpr rfl), h1⟩
    · rw [e] at hx; exact up (g.helpL x hx)
  · rcases hx with h1 | ⟨h1, h2⟩
    · exact sub x (g.hasL x (.inl h1))
    · rcases List.mem_append.mp h1 with h3 | h3
      · exact sub x (g.hasL x (.inr ⟨h3, h2⟩))
      · have ex := List.mem_singleton.mp h3
        subst ex
        rcases hL with ⟨_, e⟩ | ⟨h4, _⟩
        · rw [e]; exact List.mem_append_right _ (List.mem_singleton.mpr rfl)
        · exact absurd h2 h4
  · rcases hL with ⟨_, e⟩ | ⟨_, e⟩
    · rw [e]; exact nodup_snocI g.ndL cL
    · rw [e]; exact g.ndL
  · rw [pre i (Nat.lt_of_lt_of_le hi g.le)] at hx
    exact fun y hy ho' => List.mem_append_left _ (g.done i x hi hx y hy ho')
  · rcases List.mem_append.mp hx with h1 | h1
    · exact fun z => List.mem_append_left _ (g.cur x h1 z)
    · rw [List.mem_singleton.mp h1]; exact fun _ => List.mem_append_right _ (List.mem_singleton.mpr rfl)
  · rcases List.mem_append.mp hf with h1 | h1
    · exact g.sound P hP f h1
    · rw [List.mem_singleton.mp h1]
      refine hP h c ?_ hr ho
      rcases g.helpL h hh with h2 | ⟨h2, h3⟩
      · exact .inl h2
      · exact .inr ⟨g.sound P hP h h2, h3⟩
  · rcases hL with ⟨_, e⟩ | ⟨_, e⟩
    · rw [e, List.length_append]; exact Nat.le_trans g.le (Nat.le_add_right _ _)
    · rw [e]; exact g.le
theorem GI.next (g : GI pan w F L t D) {h : Int} (hh : L[t]? = some h) (hD : D = pan.getD h.toNat []) : GI pan w F L (t + 1) [] := by
  refine ⟨g.nd, g.off, g.helpL, g.hasL, g.ndL, fun i x hi hx => ?_, fun _ h => (by cases h), g.sound, (List.getElem?_eq_some_iff.mp hh).1⟩
  rcases Nat.lt_or_ge i t with h1 | h1
  · exact g.done i x h1 hx
  · have : i = t := by omega
    subst this
    rw [hh] at hx
    cases hx
    rw [← hD]
    exact g.cur
theorem GI.fin (g : GI pan w F L L.length []) : GathS pan w F := ⟨g.nd, g.off, fun h hh c hc ho => by
  obtain ⟨i, hi⟩ := List.getElem?_of_mem (g.hasL h hh)
  exact g.done i h (List.getElem?_eq_some_iff.mp hi).1 hi c hc ho, g.sound⟩
theorem on_data (he : w.length = pan.length) : ((w.zipIdx.filter fun x => decide (x.1 = wOn)).map fun x => PyData.int ((x.2 : Nat) : Int)) = (onS pan w).map PyData.int := by
  rw [zip_eAt he]
  unfold onS intL
  rw [List.filter_map, List.filter_map, List.map_map, List.map_map]; rfl
/-- as many gathered as have off: all of them -/
theorem GathS.count (g : GathS pan w F) (hw : w.length = pan.length) : (F.length = w.count wOff) ↔ ∀ f ∈ offS pan w, f ∈ F := by
  have hc : w.count wOff = (offS pan w).length := by
    have e1 : w = (List.range pan.length).map fun k : Nat => eAt w (k : Int) := by
      have := congrArg (List.map Prod.fst) (zip_eAt hw)
      rw [List.map_map] at this
      rw [← List.unzip_fst, List.unzip_zipIdx_eq_prod] at this
      exact this
    have e2 : (offS pan w).length = (List.range pan.length).countP fun k : Nat => decide (eAt w (k : Int) = wOff) := by
      unfold offS intL
      rw [List.filter_map, List.length_map, List.countP_eq_length_filter]; rfl
    have e3 : w.count wOff = ((List.range pan.length).map fun k : Nat => eAt w (k : Int)).count wOff := congrArg (List.count wOff) e1
    rw [e3, e2, List.count, List.countP_map]
    exact List.countP_congr fun x _ => by simp
  have ndO : (offS pan w).Nodup := by
    unfold offS
    exact ((Asc.full pan.length).up.filter _).imp fun {a b} (h : a < b) => Int.ne_of_lt h
  have sub : ∀ f ∈ F, f ∈ offS pan w := fun f hf => mem_offS.mpr (g.off f hf)
  rw [hc]
  constructor
  · intro hl f hf
    exact Classical.byContradiction fun hn => by
      have := nodup_sub (l := f :: F) (s := offS pan w) (List.nodup_cons.mpr ⟨hn, g.nd⟩) fun x hx => by
        rcases List.mem_cons.mp hx with h | h
        · rw [h]; exact hf
        · exact sub x h
      rw [List.length_cons] at this
      omega
  · intro h
    exact Nat.le_antisymm (nodup_sub g.nd sub) (nodup_sub ndO h)
end
end Pr
namespace Pr
open PySem PySem.Spec PyProof.Rows L2
section
variable {pan : List (List Int)} {w : List Str}
def ClS (pan : List (List Int)) (w : List Str) (P : Int → Prop) : Prop := ∀ h c, (((0 ≤ h ∧ h < (pan.length : Int)) ∧ eAt w h = wOn) ∨ (P h ∧ FreeS pan w h)) → c ∈ pan.getD h.toNat [] → eAt w c = wOff → P c
open Classical in
theorem gathS_ex (g : Good pan) : ∃ F, GathS pan w F := by
  have mm : ∀ {f : Int}, f ∈ (offS pan w).filter (fun f => decide (∀ P, ClS pan w P → P f)) ↔ f ∈ offS pan w ∧ ∀ P, ClS pan w P → P f := fun {f} => by rw [List.mem_filter, decide_eq_true_eq]
  refine ⟨(offS pan w).filter (fun f => decide (∀ P, ClS pan w P → P f)), ?_, fun f hf => mem_offS.mp (mm.mp hf).1, fun h hh c hc ho => mm.mpr ⟨mem_offS.mpr ⟨rel_rng g hc, ho⟩, fun P hP => ?_⟩, fun P hP f hf => (mm.mp hf).2 P hP⟩
  · unfold offS
    exact (((Asc.full pan.length).up.filter _).filter _).imp fun {a b} (h : a < b) => Int.ne_of_lt h
  · rcases hh with h1 | ⟨h1, h2⟩
    · exact hP h c (.inl h1) hc ho
    · exact hP h c (.inr ⟨(mm.mp h1).2 P hP, h2⟩) hc ho
open Classical in
noncomputable def isEff (pan : List (List Int)) (w : List Str) : Bool := decide (∃ row, InRow pan row ∧ effM pan row = w)
theorem isEff_iff : isEff pan w = true ↔ ∃ row, InRow pan row ∧ effM pan row = w := by
  unfold isEff; simp only [decide_eq_true_eq]
theorem isEff_no (h : ¬ ∃ row, InRow pan row ∧ effM pan row = w) : isEff pan w = false := by
  cases e : isEff pan w with
  | false => rfl
  | true => exact absurd (isEff_iff.mp e) h
/-- a round among the ones that are on -/
theorem isEff_round (g : Good pan) (h8 : pan.length ≤ 8) {hs : List Int} (hh : IsHeld pan (onS pan w) hs) (ne : hs ≠ []) : isEff pan w = false := isEff_no fun ⟨row, hr, he⟩ => by
  obtain ⟨F, hF⟩ := gathS_ex (w := w) g
  exact ne (hh.uniq (cond_of g h8 hr he hF).held)
theorem isEff_same (g : Good pan) (h8 : pan.length ≤ 8) {b : Int} (hb : b ∈ onS pan w) (hn : ¬ FreeS pan w b) : isEff pan w = false := isEff_no fun ⟨row, hr, he⟩ => by
  obtain ⟨F, hF⟩ := gathS_ex (w := w) g
  exact hn ((cond_of g h8 hr he hF).free b hb)
theorem isEff_eq (g : Good pan) (h8 : pan.length ≤ 8) (hw : w.length = pan.length) (h3 : ∀ x ∈ w, IsW x) {F : List Int} (hF : GathS pan w F) (held : IsHeld pan (onS pan w) []) (free : ∀ b ∈ onS pan w, FreeS pan w b) : isEff pan w = decide ((F.length : Int) = ((w.count wOff : Nat) : Int)) := by
  rw [Bool.eq_iff_iff, isEff_iff, decide_eq_true_eq]
  constructor
  · rintro ⟨row, hr, he⟩
    have := (hF.count hw).mpr (cond_of g h8 hr he hF).all
    omega
  · intro h
    exact row_of g h8 hw h3 hF ⟨held, free, (hF.count hw).mp (by omega)⟩
end
end Pr
/-! Lists of bools; panels compared. -/
namespace Pr
open PySem PySem.Spec PyProof.Rows L2
theorem eqvAll_bls : ∀ (a b : List Bool), PyData.eqvAll (a.map PyData.bool) (b.map PyData.bool) = decide (a = b)
  | [], [] => by simp [PyData.eqvAll]
  | [], _ :: _ => by simp [PyData.eqvAll]
  | _ :: _, [] => by simp [PyData.eqvAll]
  | x :: r, y :: t => by
    simp only [List.map_cons, PyData.eqvAll, PyData.eqv, eqvAll_bls r t]
    cases x <;> cases y <;> by_cases h2 : r = t <;> simp [h2]
theorem eqv_blsL (a b : List Bool) : PyData.eqv (.list (a.map PyData.bool)) (.list (b.map PyData.bool)) = decide (a = b) := by
  simp only [PyData.eqv]; exact eqvAll_bls a b
theorem lay_bls : ∀ a : List Bool, PyData.canLayAll0 (a.map PyData.bool) = true ∧ PyData.depthAll (a.map PyData.bool) = 0
  | [] => ⟨by simp [PyData.canLayAll0], by simp [PyData.depthAll]⟩
  | x :: r => by
    obtain ⟨h1, h2⟩ := lay_bls r
    exact ⟨by simp [PyData.canLayAll0, PyData.canLay0, h1], by simp [PyData.depthAll, PyData.depth, h2]⟩
theorem shp_bls (a : List Bool) : SeqAt.shaped (.list (a.map PyData.bool)) = true := by
  obtain ⟨h1, h2⟩ := lay_bls a
  simp [SeqAt.shaped, PyData.canLay0, PyData.depth, h1, h2]
theorem shp_pan (p : List (List Int)) : SeqAt.shaped (dPan p) = true := shp_rowsT p
theorem eqv_pan (p q : List (List Int)) : PyData.eqv (dPan p) (dPan q) = decide (p = q) := eqv_rowsT p q
theorem gv_neBl {K : PySem.W.Frag} {σ : L2.St} {H : Hp} {ta tb : TE} {a b : List Bool} (ha : Gv K ta σ H (.list (a.map PyData.bool))) (hb : Gv K tb σ H (.list (b.map PyData.bool))) : Gv K (tOp (rNeD K) ta tb) σ H (.bool (!decide (a = b))) := (gv_neD ha hb (shp_bls _) (shp_bls _)).to (by rw [eqv_blsL])
end Pr
namespace K14
open PySem PySem.Spec PyProof.Rows L2 Pr

/-- facts that hold on while all but X stays, and of fewer that change -/
structure WOk (W : (Addr → Prop) → Hp → V → Prop) : Prop where
  per : ∀ {X H H' v}, W X H v → Per X H H' → W X H' v
  weak : ∀ {X X' : Addr → Prop} {H v}, (∀ b, X b → X' b) → W X' H v → W X H v
theorem per_weak14 {X X' : Addr → Prop} {H H' : Hp} (h : ∀ b, X b → X' b) (p : Per X H H') : Per X' H H' := fun b o hb e => p b o (fun z => hb (h b z)) e
theorem wok_W {K : PySem.W.Frag} {n : Nat} : WOk fun X H v => W14 K X H n v := ⟨fun h p => h.per p, fun h ⟨t, ws, e, w, z⟩ => ⟨t, ws, e, fun H' p => w H' (per_weak14 h p), z⟩⟩
theorem wok_X {K : PySem.W.Frag} : WOk fun X H v => X14 K X H v := ⟨fun h p => h.per p, fun h ⟨d, w, z⟩ => ⟨d, ⟨fun H' p => w.dq H' (per_weak14 h p), w.sh, w.st⟩, z⟩⟩
theorem lc_draw {te : TE} {i n q m : Nat} {σ : L2.St} {H : Hp} {a c r : Addr} {X : Addr → Prop} {W : (Addr → Prop) → Hp → V → Prop} {Q : VK} (ok : WOk W) (hn : n ≤ 100) (hD : Dk3 H a c r (m + n * q)) (hX : XL X a r H)
    (hs : ∀ k H2 m' X', k < n → But a r H H2 → Dk3 H2 a c r (m' + q) → XL X' a r H2 → ∀ Q' : VK, (∀ v H3, But a r H2 H3 → Dk3 H3 a c r m' → W X' H3 v → Q' v H3) → te ((σ.set i none).set i (some (.int (k : Int)))) H2 Q')
    (hq : ∀ D vs H', But a r H H' → Dk3 H' a c r m → H D = none → H' D = some (.lst vs) → vs.length = n → (∀ v ∈ vs, W X H' v) → Q (.ref D) H') :
    tLc (iRng1 (tCons (tC (.int (n : Int))) tNil)) (gName i) tYes te [i] σ H Q := by
  refine ⟨(n : Int), rfl, by omega, by omega, fun D nD => ?_⟩
  have oD := hD.fresh nD
  have sD := same_new (o := HO.lst []) nD
  refine lc_range (n := n) (fun k H2 => But a r H H2 ∧ Dk3 H2 a c r (m + (n - k) * q) ∧ ∃ acc : List V, H2 D = some (.lst acc) ∧ acc.length = k ∧ ∀ v ∈ acc, W (fun b => X b ∨ b = D) H2 v)
    ⟨But.of sD, hD.same sD, [], upd_same, rfl, fun v h => by cases h⟩ (fun k H2 hk hP => ?_) (fun H2 hP => ?_)
  · obtain ⟨b2, D2, acc, eD, al, aw⟩ := hP
    have hX2 : XL (fun b => X b ∨ b = D) a r H2 := ⟨.inl hX.xa, .inl hX.xr, fun b hb => by
      rcases hb with hb | rfl
      · exact (hX.but hD D2 b2).ls b hb
      · exact ⟨_, eD⟩⟩
    have e : (n - k) * q = (n - (k + 1)) * q + q := by rw [show n - k = (n - (k + 1)) + 1 by omega, Nat.succ_mul]
    refine ⟨by show ((σ.set i none).set i (some _)).set i none = σ.set i none; rw [List.set_set, List.set_set], tyes (iteT ?_)⟩
    rw [Int.zero_add]
    refine hs k H2 (m + (n - (k + 1)) * q) _ hk b2 (D2.less (by omega)) hX2 _ fun v H3 b3 D3 wv => ?_
    have eD3 := b3 _ _ oD.1 oD.2.1 eD
    have pu : Per (fun b => X b ∨ b = D) H3 (upd H3 D (.lst (acc ++ [v]))) := fun b o hb e => by
      rw [upd_ne (fun z => hb (.inr z))]; exact e
    refine ⟨acc, eD3, by rw [al]; exact small1000 (by omega), ?_, D3.upd oD, acc ++ [v], upd_same, by rw [List.length_append, al]; rfl, fun u hu => ?_⟩
    · intro b o h1 h2 e
      rw [upd_ne (ne_of_none e nD)]
      exact b3 _ _ h1 h2 (b2 _ _ h1 h2 e)
    · rcases List.mem_append.mp hu with h | h
      · exact ok.per (ok.per (aw u h) (hX2.per b3)) pu
      · rw [List.mem_singleton.mp h]; exact ok.per wv pu
  · obtain ⟨b2, D2, acc, eD, al, aw⟩ := hP
    refine hq D acc H2 b2 (D2.less (by omega)) nD eD al fun v hv => ok.weak (fun b h => .inl h) (aw v hv)
section
variable {K : PySem.W.Frag} {σ : L2.St} {H : Hp} {E : XK} {pan : List (List Int)} {d : PyData} {x : V} {p : Addr} {ta tb : TE}
theorem gv_Right {i j : Nat} {ex : Bool} (hi : σ[i]? = some (some (.ref p))) (hj : σ[j]? = some (some x)) (hp : PanT K H p pan) (hg : Good pan) (hd : Dq K (fun _ => False) H x d) (hs : D14 d) (hb : Gv K tb σ H (.bool ex)) (hex : ex = true ↔ ∃ row, InRow pan row ∧ dStrs (effM pan row) = d) :
    Gv K (tCall (spRight K) [] E (tCons (tVar i) (tCons (tVar j) (tCons tb tNil)))) σ H (.bool true) := fun H1 s Q q =>
  ⟨.ref p, hi, x, hj, hb H1 s _ fun v H2 s2 dv => by
    cases dv
    exact ⟨p, x, pan, d, ex, rfl, hp.same (s.trans s2), hg, Dq.same (s.trans s2) _ _ hd, hs.sh, hs.ln, hex, fun H' s' => q _ H' (s2.trans s') (.bl true)⟩⟩
theorem gv_RightT {i : Nat} {ex : Bool} (hi : σ[i]? = some (some (.ref p))) (hp : PanT K H p pan) (hg : Good pan) {ws : List Str} (ht : GqT K ta σ H (ws.map V.str)) (hw : ∀ x ∈ ws, IsW x) (hl : ws.length ≤ 30) (hb : ∀ H', Same H H' → Gv K tb σ H' (.bool ex)) (hex : ex = true ↔ ∃ row, InRow pan row ∧ dStrs (effM pan row) = dStrs ws) :
    Gv K (tCall (spRight K) [] E (tCons (tVar i) (tCons ta (tCons tb tNil)))) σ H (.bool true) := fun H1 s Q q =>
  ⟨.ref p, hi, ht H1 s _ fun b H2 s2 eb => hb H2 (s.trans s2) H2 (Same.refl _) _ fun v H3 s3 dv => by
    cases dv
    have hd := d14_tup (words_s14 hw) (by rw [List.length_map]; exact hl)
    exact ⟨p, .ref b, pan, dStrs ws, ex, rfl, hp.same (s.trans (s2.trans s3)), hg, .tup (same_sqT s3 eb) (dqAll_strsW ws), hd.sh, hd.ln, hex, fun H' s' => q _ H' (s2.trans (s3.trans s')) (.bl true)⟩⟩
theorem gv_inStrL {i : Str} {l : List Str} (ha : Gv K ta σ H (.str i)) (hb : Gv K tb σ H (.list (l.map PyData.str))) : Gv K (tOp (rIn K false) ta tb) σ H (.bool (decide (i ∈ l))) :=
  gv_op2 ha hb fun x y H1 Q s hx hy q => by
    cases hx
    obtain ⟨a, xs, rfl, hq, hr⟩ := hy.lstI
    rw [dpAll_strsV hr] at hq
    refine ⟨a, _, rfl, .inl hq, rfl, flat_strsG l, ?_⟩
    rw [inV_strs]
    exact q _ _ (Same.refl _) (.bl _)
end
theorem dpA_strs {K : PySem.W.Frag} {H : Hp} : ∀ l : List Str, DpAll K H (l.map V.str) (l.map PyData.str)
  | [] => .nil
  | x :: r => .cons (.str x) (dpA_strs r)
theorem gv_LRows {K : PySem.W.Frag} {σ : L2.St} {H : Hp} {t : TE} {E : XK} {n : Nat} (h : Gv K t σ H (.int (n : Int))) (hn : n ≤ 5) : Gv K (tCall (spLRows K) [] E (tCons t tNil)) σ H (.list ((listD n n).map dInts)) := fun H1 s Q q => h H1 s _ fun v H2 s2 dv => by
  cases dv
  exact ⟨n, rfl, hn, fun H' F vs' s3 nF eF dF => q _ H' (s2.trans s3) (.lst (.inl (.inl eF)) dF)⟩
theorem ex_effs {pan : List (List Int)} (g : Good pan) (h5 : pan.length ≤ 5) {d : PyData} (hd : D14 d) : decide (d.shown ∈ (listD pan.length pan.length).map fun rw => (dStrs (effM pan rw)).shown) = true ↔ ∃ row, InRow pan row ∧ dStrs (effM pan row) = d := by
  rw [decide_eq_true_eq, List.mem_map]
  constructor
  · rintro ⟨rw', hr, e⟩
    exact ⟨rw', (mem_listD.mp hr).2.2, (hd.v.inj (ws := effM pan rw') (fun x hx => w3_mem (eff3 hx)) e.symm).symm⟩
  · rintro ⟨row, hr, rfl⟩
    have pin : InRow pan (plainM row) := fun y hy => hr y (plainM_mem.mp hy)
    exact ⟨plainM row, mem_listD.mpr ⟨nodup_few pan.length _ (plainM_nodup row) pin, plainM_nodup row, pin⟩, by rw [eff_plain]⟩
theorem no_words {pan : List (List Int)} {d : PyData} (h : wordsB d pan.length = false) : ¬ ∃ row, InRow pan row ∧ dStrs (effM pan row) = d := by
  rintro ⟨row, _, rfl⟩
  rw [wordsB_of (effM_len pan row) fun _ h => eff3 h] at h
  cases h
theorem ex_false {pan : List (List Int)} {d : PyData} (h : wordsB d pan.length = false) : false = true ↔ ∃ row, InRow pan row ∧ dStrs (effM pan row) = d := ⟨fun z => (by cases z), fun z => absurd z (no_words h)⟩
theorem odd_words {d : PyData} (h : d ∈ odd14) {n : Nat} (n1 : 1 ≤ n) (hw : wordsB d n = true) : d = .tuple [.str wOn] ∧ n = 1 := by
  obtain ⟨ws, rfl, hl, _⟩ := wordsB_some hw
  unfold odd14 at h
  simp only [List.mem_cons, List.not_mem_nil, or_false] at h
  have em : ∀ {l : List PyData}, dStrs ws = .tuple l → ws.length = l.length := fun {l} e => by
    have e : ws.map PyData.str = l := by injection e
    rw [← e, List.length_map]
  rcases h with e | e | e | e | e | e | e | e | e | e | e | e | e | e | e | e
  all_goals first
    | exact ⟨e, by have := em e; rw [List.length_singleton] at this; omega⟩
    | (have := em e; rw [List.length_nil] at this; omega)
    | (exfalso; unfold dStrs at e; cases e)
theorem one_pan {pan : List (List Int)} (g : Good pan) (h : pan.length = 1) : pan = [[]] := by
  match pan, h with
  | [l], _ =>
    cases l with
    | nil => rfl
    | cons x l =>
      have h1 := g.rng (x :: l) List.mem_cons_self x List.mem_cons_self
      have h2 := g.own 0 (x :: l) rfl
      have : x = ((0 : Nat) : Int) := by rw [List.length_singleton] at h1; omega
      exact absurd (by rw [← this]; exact List.mem_cons_self) h2
theorem ex_on1 : ∃ row, InRow [[]] row ∧ dStrs (effM [[]] row) = .tuple [.str wOn] := ⟨[0], fun y hy => by rw [List.mem_singleton.mp hy]; decide, congrArg dStrs (show effM [[]] [0] = [wOn] by decide +kernel)⟩
theorem gv_Best14 {K : PySem.W.Frag} {σ : L2.St} {H : Hp} {E : XK} {pan : List (List Int)} {e : List Str} {i j : Nat} {v1 v2 : V} {r : R2} (hi : σ[i]? = some (some v1)) (hj : σ[j]? = some (some v2)) (d1 : Dp K H v1 (dPan pan)) (d2 : Dp K H v2 (dStrs e)) (hg : Good pan) (he : e.length = pan.length)
    (hr : r = (fun x y H Q => y = .non ∧ Q (.bl (!decide (x = .non))) H)) : Gv K (tOp r (tCall (spBest K) [] E (tCons (tVar i) (tCons (tVar j) tNil))) (tC .non)) σ H (.bool (isEff pan e)) := fun H1 s Q q => by
  subst hr
  refine ⟨v1, hi, v2, hj, v1, v2, pan, e, rfl, d1.sm s, d2.sm s, hg, he, fun v H' s' h => ⟨rfl, ?_⟩⟩
  rcases h with ⟨rfl, hno⟩ | ⟨row, dr, hb, er⟩
  · rw [isEff_no hno] at q
    exact q _ H' s' (.bl false)
  · rw [isEff_iff.mpr ⟨row, hb.inr, er⟩] at q
    obtain ⟨b, rfl, _⟩ := dr.intsI
    exact q _ H' s' (.bl true)
theorem isEff_D {pan : List (List Int)} {e : List Str} : isEff pan e = true ↔ ∃ row, InRow pan row ∧ dStrs (effM pan row) = dStrs e := by
  rw [isEff_iff]
  exact ⟨fun ⟨row, h, z⟩ => ⟨row, h, by rw [z]⟩, fun ⟨row, h, z⟩ => ⟨row, h, dStrs_inj z⟩⟩
theorem w14_dp {K : PySem.W.Frag} {X : Addr → Prop} {H : Hp} {n : Nat} {v : V} {a r : Addr} {ws : List Str} (hX : XL X a r H) (h : Dp K H v (dStrs ws)) (hl : ws.length = n) (h3 : ∀ x ∈ ws, IsW x) : W14 K X H n v := by
  obtain ⟨b, rfl, e⟩ := h.strsI
  exact w14_of hX.ls e hl h3
theorem rep_words {w : Str} {n : Nat} (h : IsW w) : ∀ x ∈ List.replicate n w, IsW x := fun x hx => by rw [(List.mem_replicate.mp hx).2]; exact h
/-- the values of the second part -/
def two14 : List PyData := [.dict [(.str "on", .int 0)], .dict [(.str "same", .none)], .dict [(.str "on", .int 0), (.str "off", .int 1)], .list [.str "on"], .str "on", .tuple [.str "on"]]
def isOn14 (k : Nat) : Bool := decide (k = 5)
theorem two_D14 : ∀ d ∈ two14, D14 d := by
  unfold two14
  intro d hd
  simp only [List.mem_cons, List.not_mem_nil, or_false] at hd
  have sq : ∀ {e : PyData}, lowB e = true → Shq 10 10000 e := fun h => (Low.shq h).mono (by decide) (by decide)
  rcases hd with rfl | rfl | rfl | rfl | rfl | rfl
  · exact ⟨.inr (.inr (.inr ⟨_, rfl⟩)), sq (by decide +kernel), fun ds z => by cases z⟩
  · exact ⟨.inr (.inr (.inr ⟨_, rfl⟩)), sq (by decide +kernel), fun ds z => by cases z⟩
  · exact ⟨.inr (.inr (.inr ⟨_, rfl⟩)), sq (by decide +kernel), fun ds z => by cases z⟩
  · exact ⟨.inr (.inl ⟨_, rfl⟩), sq (by decide +kernel), fun ds z => by cases z⟩
  · exact d14_one (List.mem_of_getElem? (i := 0) rfl)
  · exact d14_tup (ds := [.str "on"]) (fun x hx => by rw [List.mem_singleton.mp hx]; exact List.mem_of_getElem? (i := 0) rfl) (by decide)
def pans14 : List (List (List Int)) := [[[]], [[], [0]]]
theorem pans_good : ∀ pn ∈ pans14, Good pn := by
  intro pn h
  unfold pans14 at h
  simp only [List.mem_cons, List.not_mem_nil, or_false] at h
  rcases h with rfl | rfl
  · exact ⟨by decide, by decide, by decide, by decide, fun i l h hx => by
      match i, h with
      | 0, h => cases h; cases hx⟩
  · exact ⟨by decide, by decide, by decide, by decide, fun i l h hx => by
      match i, h with
      | 0, h => cases h; cases hx
      | 1, h => cases h; rw [List.mem_singleton] at hx; exact absurd hx (by decide)⟩
theorem two_ex {k : Nat} {d : PyData} {pn : List (List Int)} (hk : two14[k]? = some d) (hp : pn ∈ pans14) : (decide (pn = [[]]) && isOn14 k) = true ↔ ∃ row, InRow pn row ∧ dStrs (effM pn row) = d := by
  unfold pans14 at hp
  simp only [List.mem_cons, List.not_mem_nil, or_false] at hp
  have no : ∀ {e : PyData}, (∀ ds, e ≠ .tuple ds) → ∀ pn : List (List Int), wordsB e pn.length = false := fun {e} he pn => by
    cases e with
    | tuple ds => exact absurd rfl (he ds)
    | _ => rfl
  have ff : ∀ {b : Bool}, b = false → wordsB d pn.length = false → (b = true ↔ ∃ row, InRow pn row ∧ dStrs (effM pn row) = d) := fun hb h => by rw [hb]; exact ex_false h
  match k, hk with
  | 0, hk => cases hk; exact ff (by rw [show isOn14 0 = false from rfl, Bool.and_false]) (no (fun ds z => by cases z) _)
  | 1, hk => cases hk; exact ff (by rw [show isOn14 1 = false from rfl, Bool.and_false]) (no (fun ds z => by cases z) _)
  | 2, hk => cases hk; exact ff (by rw [show isOn14 2 = false from rfl, Bool.and_false]) (no (fun ds z => by cases z) _)
  | 3, hk => cases hk; exact ff (by rw [show isOn14 3 = false from rfl, Bool.and_false]) (no (fun ds z => by cases z) _)
  | 4, hk => cases hk; exact ff (by rw [show isOn14 4 = false from rfl, Bool.and_false]) (no (fun ds z => by cases z) _)
  | 5, hk =>
    cases hk
    rcases hp with rfl | rfl
    · exact ⟨fun _ => ex_on1, fun _ => rfl⟩
    · exact ff rfl rfl
  | k + 6, hk => simp [two14] at hk
theorem gv_eqTwo {K : PySem.W.Frag} {σ : L2.St} {H : Hp} {k i : Nat} {v : V} {d : PyData} {N : Addr → Prop} (hi : σ[i]? = some (some v)) (hk : two14[k]? = some d) (hd : Dq K N H v d) : Gv K (tOp (rEqDD K) (tVar i) (tTup (tCons (tC (.str "on")) tNil))) σ H (.bool (isOn14 k)) := fun H1 s Q q => by
  refine ⟨v, hi, by show 1 ≤ sizeLine; decide, fun p np => ?_⟩
  have sp := same_new (o := HO.tup [V.str "on"]) np
  have hd := Dq.same (s.trans sp) _ _ hd
  have hT : SqT K (upd H1 p (.tup [V.str "on"])) p [V.str "on"] := .inl (.inl upd_same)
  have dT : Dp K (upd H1 p (.tup [V.str "on"])) (.ref p) (.tuple [.str "on"]) := .tup hT (.cons (.str _) .nil)
  have fin : ∀ b, isOn14 k = b → Q (.bl b) (upd H1 p (.tup [V.str "on"])) := fun b e => q _ _ sp (by rw [e]; exact .bl b)
  have dct : ∀ {l : Addr} {kvs : List (Key × V)}, v = .ref l → (upd H1 p (.tup [V.str "on"])) l = some (.dK kvs) → isOn14 k = false → rEqDD K v (.ref p) (upd H1 p (.tup [V.str "on"])) Q := fun e1 e2 e3 => .inr ⟨_, p, _, _, e1, rfl, e2, hT, fin false e3⟩
  have dat : ∀ {b : Bool}, d.hasDict = false → SeqAt.shaped d = true → PyData.eqv d (.tuple [.str "on"]) = b → isOn14 k = b → rEqDD K v (.ref p) (upd H1 p (.tup [V.str "on"])) Q := fun h1 h2 h3 h4 => .inl ⟨d, _, Dq.toDp _ _ h1 hd, dT, h2, by decide +kernel, by rw [h3]; exact fin _ h4⟩
  match k, hk with
  | 0, hk => cases hk; cases hd with | dct1 e => exact dct rfl e rfl
  | 1, hk => cases hk; cases hd with | dctN e => exact dct rfl e rfl
  | 2, hk => cases hk; cases hd with | dct2 e => exact dct rfl e rfl
  | 3, hk => cases hk; exact dat (b := false) (by decide +kernel) (by decide +kernel) (by decide +kernel) rfl
  | 4, hk => cases hk; exact dat (b := false) (by decide +kernel) (by decide +kernel) (by decide +kernel) rfl
  | 5, hk => cases hk; exact dat (b := true) (by decide +kernel) (by decide +kernel) (by decide +kernel) rfl
  | k + 6, hk => simp [two14] at hk

end K14
namespace K14
open PySem PySem.Spec PyProof.Rows L2 Pr
def nLaw : List Str := ["_law_script", "_law_drawn", "_law_turn", "_law_panel_here", "_law_n", "_law_effects", "_law_values", "_law_value", "_law_words_here", "_law_one", "_law_odd_here", "_law_row_here", "_law_k"]
theorem scLaw : FnScope nLaw ["_law_script"] (defScope sLaw) := ⟨rfl, rfl, rfl, by decide +kernel, rfl, by decide +kernel, by decide +kernel⟩
section
variable {P : Program} {w : World} {K : PySem.W.Frag} {mg : Str → Option Value} {base : Heap}
def spLaw (K : PySem.W.Frag) : Sp := fun vs H Q _ => ∃ (s : Addr) (ns : List Int), vs = [.ref s] ∧ SqL K H s (ns.map V.int) ∧ ns.length ≤ 63 ∧ ∀ H', Q (.bl true) H'
theorem ok_law {fNo : Addr} {fdNo : FuncData} {fPressE : Addr} {fdPressE : FuncData} {fJoin : Addr} {fdJoin : FuncData} {fBehind : Addr} {fdBehind : FuncData} {fPart : Addr} {fdPart : FuncData} {fWords : Addr} {fdWords : FuncData} {fUse : Addr} {fdUse : FuncData} {fFor : Addr} {fdFor : FuncData} {fDraws : Addr} {fdDraws : FuncData} {fNext : Addr} {fdNext : FuncData} {fPanel : Addr} {fdPanel : FuncData} {fRow : Addr} {fdRow : FuncData} {fLEff : Addr} {fdLEff : FuncData} {fLRows : Addr} {fdLRows : FuncData} {fOdd : Addr} {fdOdd : FuncData} {fLWords : Addr} {fdLWords : FuncData} {fDec : Addr} {fdDec : FuncData} {fLays : Addr} {fdLays : FuncData} {fBest : Addr} {fdBest : FuncData} {fIsRow : Addr} {fdIsRow : FuncData} {fRight : Addr} {fdRight : FuncData} {fBent : Addr} {fdBent : FuncData} {f : Addr} {fd : FuncData} (F : Fun K "law" "law" sLaw f fd)
    (FNo : Fun K "no_effect" "no_effect" sNo fNo fdNo) (bNo : Binds K fdNo ["panel"] []) (gNo : mg "no_effect" = some (.ref fNo))
    (FPressE : Fun K "press_effect" "press_effect" sPressE fPressE fdPressE) (bPressE : Binds K fdPressE ["panel", "button"] []) (gPressE : mg "press_effect" = some (.ref fPressE))
    (FJoin : Fun K "joined_effect" "joined_effect" sJoin fJoin fdJoin) (bJoin : Binds K fdJoin ["first", "second"] []) (gJoin : mg "joined_effect" = some (.ref fJoin))
    (FBehind : Fun K "effect_behind_press" "effect_behind_press" sBehind fBehind fdBehind) (bBehind : Binds K fdBehind ["panel", "effect", "button"] []) (gBehind : mg "effect_behind_press" = some (.ref fBehind))
    (FPart : Fun K "is_part" "is_part" sPart fPart fdPart) (bPart : Binds K fdPart ["effect", "wanted"] []) (gPart : mg "is_part" = some (.ref fPart))
    (FWords : Fun K "is_tuple_of_words" "is_tuple_of_words" sWords fWords fdWords) (bWords : Binds K fdWords ["value", "many"] []) (gWords : mg "is_tuple_of_words" = some (.ref fWords))
    (FUse : Fun K "useful_press" "useful_press" sUse fUse fdUse) (bUse : Binds K fdUse ["panel", "effect", "wanted"] []) (gUse : mg "useful_press" = some (.ref fUse))
    (FFor : Fun K "row_for" "row_for" sFor fFor fdFor) (bFor : Binds K fdFor ["panel", "value"] []) (gFor : mg "row_for" = some (.ref fFor))
    (FDraws : Fun K "_law_draws" "_law_draws" sDraws fDraws fdDraws) (bDraws : Binds K fdDraws ["_law_script"] []) (gDraws : mg "_law_draws" = some (.ref fDraws))
    (FNext : Fun K "_law_next" "_law_next" sNext fNext fdNext) (bNext : Binds K fdNext ["_law_drawn", "_law_many"] []) (gNext : mg "_law_next" = some (.ref fNext))
    (FPanel : Fun K "_law_panel" "_law_panel" sPanel fPanel fdPanel) (bPanel : Binds K fdPanel ["_law_drawn", "_law_most"] []) (gPanel : mg "_law_panel" = some (.ref fPanel))
    (FRow : Fun K "_law_row" "_law_row" sRow fRow fdRow) (bRow : Binds K fdRow ["_law_drawn", "_law_n", "_law_most"] []) (gRow : mg "_law_row" = some (.ref fRow))
    (FLEff : Fun K "_law_effect" "_law_effect" sLEff fLEff fdLEff) (bLEff : Binds K fdLEff ["_law_panel_here", "_law_row_here"] []) (gLEff : mg "_law_effect" = some (.ref fLEff))
    (FLRows : Fun K "_law_rows" "_law_rows" sLRows fLRows fdLRows) (bLRows : Binds K fdLRows ["_law_n"] []) (gLRows : mg "_law_rows" = some (.ref fLRows))
    (FOdd : Fun K "_law_odd" "_law_odd" sOdd fOdd fdOdd) (bOdd : Binds K fdOdd ["_law_drawn"] []) (gOdd : mg "_law_odd" = some (.ref fOdd))
    (FLWords : Fun K "_law_words" "_law_words" sLWords fLWords fdLWords) (bLWords : Binds K fdLWords ["_law_drawn", "_law_n"] []) (gLWords : mg "_law_words" = some (.ref fLWords))
    (FDec : Fun K "_law_decided" "_law_decided" sDec fDec fdDec) (bDec : Binds K fdDec ["_law_panel_here", "_law_effect_here", "_law_decided_here", "_law_button"] []) (gDec : mg "_law_decided" = some (.ref fDec))
    (FLays : Fun K "_law_layers" "_law_layers" sLays fLays fdLays) (bLays : Binds K fdLays ["_law_panel_here", "_law_effect_here"] []) (gLays : mg "_law_layers" = some (.ref fLays))
    (FBest : Fun K "_law_best" "_law_best" sBest fBest fdBest) (bBest : Binds K fdBest ["_law_panel_here", "_law_effect_here"] []) (gBest : mg "_law_best" = some (.ref fBest))
    (FIsRow : Fun K "_law_is_row" "_law_is_row" sIsRow fIsRow fdIsRow) (bIsRow : Binds K fdIsRow ["_law_n", "_law_value"] []) (gIsRow : mg "_law_is_row" = some (.ref fIsRow))
    (FRight : Fun K "_law_right" "_law_right" sRight fRight fdRight) (bRight : Binds K fdRight ["_law_panel_here", "_law_value", "_law_exists"] []) (gRight : mg "_law_right" = some (.ref fRight))
    (FBent : Fun K "_law_bent" "_law_bent" sBent fBent fdBent) (bBent : Binds K fdBent ["_law_drawn", "_law_value"] []) (gBent : mg "_law_bent" = some (.ref fBent))
    (m_all : mg "all" = none) (m_bool : mg "bool" = none) (m_enumerate : mg "enumerate" = none) (m_int : mg "int" = none) (m_isinstance : mg "isinstance" = none) (m_len : mg "len" = none) (m_list : mg "list" = none) (m_range : mg "range" = none) (m_repr : mg "repr" = none) (m_set : mg "set" = none) (m_sorted : mg "sorted" = none) (m_tuple : mg "tuple" = none) (m_zip : mg "zip" = none) {aW : Addr} (y_W : mg "WORDS" = some (.ref aW)) (y_HW : ∀ H : Hp, SqT K H aW ([wOn, wOff, wSame].map V.str)) : FnG P w K mg base (7) f fd ["_law_script"] (spLaw K) := by
  have GDraws : FnOk P w K mg base CX0 (1) fDraws fdDraws ["_law_script"] (spDraws K) := ok_draws FDraws m_len m_list m_int
  have GPanel : FnOk P w K mg base CX0 (2) fPanel fdPanel ["_law_drawn", "_law_most"] spPanel := ok_panel FPanel FNext bNext gNext m_len m_range m_tuple m_int
  have GLRows : FnOk P w K mg base CX0 (1) fLRows fdLRows ["_law_n"] (spLRows K) := ok_LRows FLRows m_range
  have GLEff : FnOk P w K mg base CX0 (1) fLEff fdLEff ["_law_panel_here", "_law_row_here"] (spLEff K) := ok_LEff FLEff m_len m_range m_tuple
  have GRow : FnOk P w K mg base CX0 (2) fRow fdRow ["_law_drawn", "_law_n", "_law_most"] spRow := ok_row FRow FNext bNext gNext m_len m_range m_tuple
  have GLWords : FnOk P w K mg base CX0 (2) fLWords fdLWords ["_law_drawn", "_law_n"] spLWords := ok_LWords FLWords FNext bNext gNext m_len m_range m_tuple
  have GBent : FnOk P w K mg base CX0 (3) fBent fdBent ["_law_drawn", "_law_value"] (spBent K) := ok_Bent FBent FNext bNext gNext FOdd bOdd gOdd m_len m_list
  have GOdd : FnOk P w K mg base CX0 (2) fOdd fdOdd ["_law_drawn"] (spOdd K) := ok_Odd FOdd FNext bNext gNext m_len
  have GRight : FnG P w K mg base (6) fRight fdRight ["_law_panel_here", "_law_value", "_law_exists"] (spRight K) := ok_Right FRight FNo bNo gNo FPressE bPressE gPressE FJoin bJoin gJoin FBehind bBehind gBehind FPart bPart gPart FWords bWords gWords FUse bUse gUse FFor bFor gFor FLEff bLEff gLEff FIsRow bIsRow gIsRow m_all m_bool m_int m_isinstance m_len m_list m_range m_repr m_set m_tuple m_zip y_W y_HW
  have GBest : FnOk P w K mg base CX0 (3) fBest fdBest ["_law_panel_here", "_law_effect_here"] (spBest K) := ok_Best FBest FDec bDec gDec FLays bLays gLays m_enumerate m_len m_range m_set m_sorted m_tuple
  refine okG F scLaw (fun vs H Q E h => ?_) (fun cdv A outer s H vs Q E gd hr h => ?_)
  · obtain ⟨s, ns, rfl, _⟩ := h
    rfl
  · obtain ⟨sc, ns, rfl, hS, hlen, q⟩ := h
    refine ⟨_, pss_cons (ps_set (i := 1) scLaw.nd rfl (.inr rfl) (pe_call GDraws (hr.mono (by omega)) (by rfl) gDraws FDraws.kp bDraws .nil pass0 (pa_cons (pv 0) pa_nil)))
      (pss_cons (ps_for PassesOwn.never rfl (pi_range1 (by rfl) m_range (pa_cons pe_int pa_nil)) (pg_name (i := 2) scLaw.nd rfl (Or.inl rfl)) (pss_cons (ps_set (i := 3) scLaw.nd rfl (.inr rfl) (pe_call GPanel (hr.mono (by omega)) (by rfl) gPanel FPanel.kp bPanel .nil pass0 (pa_cons (pv 1) (pa_cons pe_int pa_nil))))
      (pss_cons (ps_set (i := 4) scLaw.nd rfl (.inr rfl) (pe_callB (show CallR _ _ (rLenG K) from cr_lenG) (by rfl) m_len PySem.boot_len (pa_cons (pv 3) pa_nil)))
      (pss_cons (ps_setLc (i := 5) (own := [("_law_row_here", 11)]) (g := gName 11) (tt := tYes) rfl scLaw.nd rfl rfl (sw_true rfl rfl rfl (by decide +kernel)) (show PI _ _ _ (iList K _) from pi_list (pe_call GLRows (hr.mono (by omega)) (by rfl) gLRows FLRows.kp bLRows .nil pass0 (pa_cons (pv 4) pa_nil))) (blkOk_by (own := [("_law_row_here", 11)]) (N := nLaw) (sc := defScope sLaw) (by decide +kernel)) (fun _ _ _ _ _ => pg_name (i := 11) scLaw.nd rfl (Or.inl rfl)) (fun _ _ _ _ _ => pts_nil) (fun _ _ _ _ _ => pe_callB (show CallR _ _ (rReprA K) from cr_reprA gd hr) (by rfl) m_repr (by decide +kernel) (pa_cons (pe_call GLEff (hr.mono (by omega)) (by rfl) gLEff FLEff.kp bLEff .nil pass0 (pa_cons (pv 3) (pa_cons (pv 11) pa_nil))) pa_nil)))
      (pss_cons (ps_set (i := 6) scLaw.nd rfl (.inr rfl) (pe_lc (own := [("_law_k", 12)]) (g := gName 12) (tt := tYes) rfl scLaw.nd (pi_range1 (by rfl) m_range (pa_cons pe_int pa_nil)) (blkOk_by (own := [("_law_k", 12)]) (N := nLaw) (sc := defScope sLaw) (by decide +kernel)) (fun _ _ _ _ _ => pg_name (i := 12) scLaw.nd rfl (Or.inl rfl)) (fun _ _ _ _ _ => pts_nil) (fun _ _ _ _ _ => pe_call GLEff (hr.mono (by omega)) (by rfl) gLEff FLEff.kp bLEff .nil pass0 (pa_cons (pv 3) (pa_cons (pe_call GRow (hr.mono (by omega)) (by rfl) gRow FRow.kp bRow .nil pass0 (pa_cons (pv 1) (pa_cons (pv 4) (pa_cons pe_int pa_nil)))) pa_nil)))))
      (pss_cons (ps_set (i := 6) scLaw.nd rfl (.inr rfl) (pe_op op_cat (pv 6) (pe_lst (pa_cons (pe_op (show OpR _ _ (rRepA K) from op_repA) (pe_tup (pa_cons pe_str pa_nil)) (pv 4)) (pa_cons (pe_op (show OpR _ _ (rRepA K) from op_repA) (pe_tup (pa_cons pe_str pa_nil)) (pv 4)) (pa_cons (pe_op (show OpR _ _ (rRepA K) from op_repA) (pe_tup (pa_cons pe_str pa_nil)) (pv 4)) pa_nil))))))
      (pss_cons (ps_set (i := 6) scLaw.nd rfl (.inr rfl) (pe_op op_cat (pv 6) (pe_lc (own := [("_law_k", 12)]) (g := gName 12) (tt := tYes) rfl scLaw.nd (pi_range1 (by rfl) m_range (pa_cons pe_int pa_nil)) (blkOk_by (own := [("_law_k", 12)]) (N := nLaw) (sc := defScope sLaw) (by decide +kernel)) (fun _ _ _ _ _ => pg_name (i := 12) scLaw.nd rfl (Or.inl rfl)) (fun _ _ _ _ _ => pts_nil) (fun _ _ _ _ _ => pe_call GLWords (hr.mono (by omega)) (by rfl) gLWords FLWords.kp bLWords .nil pass0 (pa_cons (pv 1) (pa_cons (pv 4) pa_nil))))))
      (pss_cons (ps_set (i := 6) scLaw.nd rfl (.inr rfl) (pe_op op_cat (pv 6) (pe_lc (own := [("_law_k", 12)]) (g := gName 12) (tt := tYes) rfl scLaw.nd (pi_range1 (by rfl) m_range (pa_cons pe_int pa_nil)) (blkOk_by (own := [("_law_k", 12)]) (N := nLaw) (sc := defScope sLaw) (by decide +kernel)) (fun _ _ _ _ _ => pg_name (i := 12) scLaw.nd rfl (Or.inl rfl)) (fun _ _ _ _ _ => pts_nil) (fun _ _ _ _ _ => pe_call GBent (hr.mono (by omega)) (by rfl) gBent FBent.kp bBent .nil pass0 (pa_cons (pv 1) (pa_cons (pe_ix (show IxR _ (rIxL K) from ix_list) (pv 6) (pv 12) (fun _ _ => rfl)) pa_nil))))))
      (pss_cons (ps_set (i := 6) scLaw.nd rfl (.inr rfl) (pe_op op_cat (pv 6) (pe_lst (pa_cons (pe_call GOdd (hr.mono (by omega)) (by rfl) gOdd FOdd.kp bOdd .nil pass0 (pa_cons (pv 1) pa_nil)) (pa_cons pe_non (pa_cons (pe_tup pa_nil) pa_nil))))))
      (pss_one (ps_for PassesOwn.never rfl (show PI _ _ _ (iList K _) from pi_list (pv 6)) (pg_name (i := 7) scLaw.nd rfl (Or.inl rfl)) (pss_one (ps_if (pt_not (pt_val (pe_callG GRight gd (hr.mono (by omega)) (by rfl) gRight FRight.kp bRight (pa_cons (pv 3) (pa_cons (pv 7) (pa_cons (pe_cmpR (show OpR _ _ (rIn K false) from op_in_seq) (pe_callB (show CallR _ _ (rReprA K) from cr_reprA gd hr) (by rfl) m_repr (by decide +kernel) (pa_cons (pv 7) pa_nil)) (pv 5) (by rfl)) pa_nil)))))) (pss_one (ps_ret pe_bl)) pss_nil)))))))))))))
      (pss_cons (ps_for PassesOwn.never rfl (show PI _ _ _ (iList K _) from pi_list (pe_lst (pa_cons (pe_disp (pps_cons pe_str pe_int pps_nil) (by rfl) (by rfl) (fun z => by cases z) (by decide)) (pa_cons (pe_disp (pps_cons pe_str pe_non pps_nil) (by rfl) (by rfl) (fun z => by cases z) (by decide)) (pa_cons (pe_disp (pps_cons pe_str pe_int (pps_cons pe_str pe_int pps_nil)) (by rfl) (by rfl) (fun z => by cases z) (by decide)) (pa_cons (pe_lstG (pa_cons pe_str pa_nil)) (pa_cons pe_str (pa_cons (pe_tup (pa_cons pe_str pa_nil)) pa_nil)))))))) (pg_name (i := 7) scLaw.nd rfl (Or.inl rfl)) (pss_one (ps_for PassesOwn.never rfl (show PI _ _ _ (iList K _) from pi_list (pe_lst (pa_cons (pe_tup (pa_cons (pe_tup pa_nil) pa_nil)) (pa_cons (pe_tup (pa_cons (pe_tup pa_nil) (pa_cons (pe_tup (pa_cons pe_int pa_nil)) pa_nil))) pa_nil)))) (pg_name (i := 3) scLaw.nd rfl (Or.inr rfl)) (pss_one (ps_if (pt_not (pt_val (pe_callG GRight gd (hr.mono (by omega)) (by rfl) gRight FRight.kp bRight (pa_cons (pv 3) (pa_cons (pv 7) (pa_cons (pe_and (pe_cmpR (show OpR _ _ (rEqD K) from op_eqD hr.units) (pv 3) (pe_tup (pa_cons (pe_tup pa_nil) pa_nil)) (nomark _)) (pe_one (pe_cmpR (show OpR _ _ (rEqDD K) from op_eqDD hr.units) (pv 7) (pe_tup (pa_cons pe_str pa_nil)) (nomark _)))) pa_nil)))))) (pss_one (ps_ret pe_bl)) pss_nil)))))
      (pss_cons (ps_for PassesOwn.never rfl (pi_range1 (by rfl) m_range (pa_cons pe_int pa_nil)) (pg_name (i := 2) scLaw.nd rfl (Or.inl rfl)) (pss_cons (ps_set (i := 3) scLaw.nd rfl (.inr rfl) (pe_call GPanel (hr.mono (by omega)) (by rfl) gPanel FPanel.kp bPanel .nil pass0 (pa_cons (pv 1) (pa_cons pe_int pa_nil))))
      (pss_cons (ps_set (i := 4) scLaw.nd rfl (.inr rfl) (pe_callB (show CallR _ _ (rLenG K) from cr_lenG) (by rfl) m_len PySem.boot_len (pa_cons (pv 3) pa_nil)))
      (pss_cons (ps_set (i := 7) scLaw.nd rfl (.inl rfl) (pe_call GLEff (hr.mono (by omega)) (by rfl) gLEff FLEff.kp bLEff .nil pass0 (pa_cons (pv 3) (pa_cons (pe_call GRow (hr.mono (by omega)) (by rfl) gRow FRow.kp bRow .nil pass0 (pa_cons (pv 1) (pa_cons (pv 4) (pa_cons pe_int pa_nil)))) pa_nil))))
      (pss_cons (ps_set (i := 8) scLaw.nd rfl (.inl rfl) (pe_lst (pa_cons (pv 7) (pa_cons (pe_call GLWords (hr.mono (by omega)) (by rfl) gLWords FLWords.kp bLWords .nil pass0 (pa_cons (pv 1) (pa_cons (pv 4) pa_nil))) (pa_cons (pe_revT (pv 7)) (pa_cons (pe_op (show OpR _ _ (rCatS K) from op_catS) (pe_slice (show SlR _ (rSlS K) from sl_tupS) (pv 7) (po_some pe_int) po_none) (pe_slice (show SlR _ (rSlS K) from sl_tupS) (pv 7) po_none (po_some pe_int))) pa_nil))))))
      (pss_cons (ps_for PassesOwn.never rfl (show PI _ _ _ (iList K _) from pi_list (pv 8)) (pg_name (i := 9) scLaw.nd rfl (Or.inl rfl)) (pss_one (ps_if (pt_not (pt_val (pe_callG GRight gd (hr.mono (by omega)) (by rfl) gRight FRight.kp bRight (pa_cons (pv 3) (pa_cons (pv 9) (pa_cons (pe_cmpR op_notN (pe_call GBest (hr.mono (by omega)) (by rfl) gBest FBest.kp bBest .nil pass0 (pa_cons (pv 3) (pa_cons (pv 9) pa_nil))) pe_non (by rfl)) pa_nil)))))) (pss_one (ps_ret pe_bl)) pss_nil)))
      (pss_cons (ps_if (PW.pt (pw_or (pt_not (pt_val (pe_callG GRight gd (hr.mono (by omega)) (by rfl) gRight FRight.kp bRight (pa_cons (pv 3) (pa_cons (pv 7) (pa_cons pe_bl pa_nil)))))) (pw_or1 (pt_not (pt_val (pe_callG GRight gd (hr.mono (by omega)) (by rfl) gRight FRight.kp bRight (pa_cons (pv 3) (pa_cons (pe_op (show OpR _ _ (rCatS K) from op_catS) (pv 7) (pe_tup (pa_cons pe_str pa_nil))) (pa_cons pe_bl pa_nil))))))))) (pss_one (ps_ret pe_bl)) pss_nil)
      (pss_cons (ps_set (i := 10) scLaw.nd rfl (.inl rfl) (pe_call GOdd (hr.mono (by omega)) (by rfl) gOdd FOdd.kp bOdd .nil pass0 (pa_cons (pv 1) pa_nil)))
      (pss_one (ps_if (pt_not (pt_val (pe_callG GRight gd (hr.mono (by omega)) (by rfl) gRight FRight.kp bRight (pa_cons (pv 3) (pa_cons (pv 10) (pa_cons (pe_and (pe_cmpR op_eq (pv 4) pe_int (nomark _)) (pe_one (pe_cmpR op_eq (pe_callB (show CallR _ _ (rReprA K) from cr_reprA gd hr) (by rfl) m_repr (by decide +kernel) (pa_cons (pv 10) pa_nil)) (pe_callB (show CallR _ _ (rReprA K) from cr_reprA gd hr) (by rfl) m_repr (by decide +kernel) (pa_cons (pe_tup (pa_cons pe_str pa_nil)) pa_nil)) (nomark _)))) pa_nil)))))) (pss_one (ps_ret pe_bl)) pss_nil))))))))))
      (pss_one (ps_ret pe_bl))))), ?_⟩
    refine gs_setQS ⟨.ref sc, rfl, sc, ns, rfl, hS, hlen, fun H1 a c r s1 D1 => ?_⟩
    refine gs_seqS (fun σ H2 => Dk3 H2 a c r 900000 ∧ ∃ x2 x3 x4 x5 x6 x7 x8 x9 x10, σ = [some (.ref sc), some (.ref a), x2, x3, x4, x5, x6, x7, x8, x9, x10, none, none]) ?rest ?loop
    case loop =>
      intro hk
      refine ⟨4, rfl, by decide, by decide, ?_⟩
      refine for_range (n := 4) (fun i σ H2 => Dk3 H2 a c r (1000000 - 10000 * i) ∧ ∃ x2 x3 x4 x5 x6 x7 x8 x9 x10, σ = [some (.ref sc), some (.ref a), x2, x3, x4, x5, x6, x7, x8, x9, x10, none, none]) ⟨D1.less (by omega), _, _, _, _, _, _, _, _, _, rfl⟩ (fun i σ H2 hi hP => ?_) (fun σ H2 hP => ?_)
      · obtain ⟨D2, x2, x3, x4, x5, x6, x7, x8, x9, x10, rfl⟩ := hP
        have hD2 : Dk3 H2 a c r (990000 - 10000 * i + 5000) := D2.less (by omega)
        generalize hM : 990000 - 10000 * i = M at hD2
        refine gs_setQS ⟨.ref a, rfl, a, c, r, M + 4800, 5, rfl, hD2, by decide, by decide, fun H3 p pan b3 D3 hp hg hle => ?_⟩
        have few := hg.few
        have pos := hg.pos
        have n5 : pan.length ≤ 5 := by omega
        have hlp : (pan.map dInts).length = pan.length := List.length_map _
        have rf : (listD pan.length pan.length).length ≤ 100000 := Nat.le_trans (listD_len n5 n5) (by omega)
        refine gs_set1 (K := K) ((gv_lenT (gv_var (i := 3) rfl hp.dp)).to (e := .int (pan.length : Int)) (by rw [hlp])) fun vn H4 s4 dn => ?_
        cases dn
        have hp4 := hp.same s4
        refine gs_setN (K := K) (gn_lc (δ := dInts) (as := listD pan.length pan.length) (p := fun _ => true) (f := fun rw => PyData.str (dStrs (effM pan rw)).shown) (gvi_list (gv_LRows (n := pan.length) (gv_var (i := 4) rfl (.int _)) n5)) (fun rw v Hz hr sz dv => ⟨gvt_yes, fun _ => gv_reprA (gv_LEff (pan := pan) (row := rw) (gva_cons (gv_var (i := 3) rfl (hp4.same sz).dp) (gva_cons (gv_var rfl dv) gva_nil)) ⟨few, (mem_listD.mp hr).2.2⟩) (rep_eff hg rw)⟩) (fun _ _ => rfl) rf) fun aE vE H5 s5 nE eE dE => ?_
        have eE : H5 aE = some (.lst (((listD pan.length pan.length).map fun rw => (dStrs (effM pan rw)).shown).map V.str)) := by
          rw [List.filter_eq_self.mpr (fun _ _ => rfl)] at dE
          have ev : vE = ((listD pan.length pan.length).map fun rw => (dStrs (effM pan rw)).shown).map V.str := dpAll_strsV (l := (listD pan.length pan.length).map fun rw => (dStrs (effM pan rw)).shown) (by rw [List.map_map]; exact dE)
          rw [ev] at eE
          exact eE
        have D5 := (D3.same s4).same s5
        have hp5 := hp4.same s5
        have oE := (D3.same s4).fresh nE
        -- three effects
        refine gs_setQS (lc_draw (W := fun X H v => W14 K X H pan.length v) (n := 3) (q := 61) (m := M + 4600) wok_W (by decide) (D5.less (by omega)) (xl_dk D5) (fun k H6 m' X' hk3 b6 D6 xl6 Q' q' => ?_) fun L0 v0 H6 b6 D6 nL0 eL0 hl0 hw0 => ?_)
        · have hp6 := hp5.but3 D5 b6
          refine ⟨.ref p, rfl, .ref a, rfl, .int (pan.length : Int), rfl, a, c, r, m', (pan.length : Int), 8, rfl, D6, by omega, by omega, by decide, by decide, fun H7 t row b7 D7 ft rng _ => ?_⟩
          have hp7 := hp6.but3 D6 b7
          refine ⟨(pan, row), .cons hp7.dp (.cons (dp_ints ft.sq) .nil), ⟨few, rng⟩, fun v H8 s8 dv => ?_⟩
          exact q' v H8 (b7.trans (But.of s8)) (D7.same s8) (w14_dp ((xl6.but D6 D7 b7).same s8) dv (effM_len pan row) fun x hx => eff3 hx)
        have hp6 := hp5.but3 D5 b6
        have eE6 := b6 _ _ oE.1 oE.2.1 eE
        have oL0 := D5.fresh nL0
        -- three even ones
        refine gs_setQS ⟨.ref L0, rfl, (gn_lst (K := K) (gva_cons (gv_repA (k := pan.length) (gv_tup (gva_cons gv_str gva_nil)) (gv_var (i := 4) rfl (.int _)) (by omega)) (gva_cons (gv_repA (k := pan.length) (gv_tup (gva_cons gv_str gva_nil)) (gv_var (i := 4) rfl (.int _)) (by omega)) (gva_cons (gv_repA (k := pan.length) (gv_tup (gva_cons gv_str gva_nil)) (gv_var (i := 4) rfl (.int _)) (by omega)) gva_nil))) (by show 3 ≤ sizeLine; decide)) _ (Same.refl _) _ fun A1 u1 H7 s7 nA1 eA1 dA1 => ?_⟩
        obtain ⟨y1, y2, y3, rfl, dy1, dy2, dy3⟩ := dpAll3 dA1
        refine ⟨L0, A1, _, _, rfl, rfl, s7 _ _ eL0, eA1, by rw [hl0]; show 3 + 3 ≤ sizeLine; decide, fun L1 nL1 => ?_⟩
        have sL1 := same_new (o := HO.lst (v0 ++ [y1, y2, y3])) nL1
        have eL1 : (upd H7 L1 (.lst (v0 ++ [y1, y2, y3]))) L1 = some (.lst (v0 ++ [y1, y2, y3])) := upd_same
        have D7 := (D6.same s7).same sL1
        have oL1 := (D6.same s7).fresh nL1
        have s67 := s7.trans sL1
        have hw1 : ∀ v ∈ v0 ++ [y1, y2, y3], W14 K (DkX a r) (upd H7 L1 (.lst (v0 ++ [y1, y2, y3]))) pan.length v := by
          intro v hv
          rcases List.mem_append.mp hv with h | h
          · exact (hw0 v h).per (Per.of s67)
          · have rr : ∀ {w : Str} {y : V}, IsW w → Dp K H7 y (.tuple (List.replicate pan.length (PyData.str w))) → W14 K (DkX a r) (upd H7 L1 (.lst (v0 ++ [y1, y2, y3]))) pan.length y := fun {w y} hw dy =>
              w14_dp (ws := List.replicate pan.length w) (xl_dk D7) (by unfold dStrs; rw [List.map_replicate]; exact dy.sm sL1) (List.length_replicate ..) (rep_words hw)
            simp only [List.mem_cons, List.not_mem_nil, or_false] at h
            rcases h with rfl | rfl | rfl
            · exact rr (.inl rfl) dy1
            · exact rr (.inr (.inl rfl)) dy2
            · exact rr (.inr (.inr rfl)) dy3
        have hl1 : (v0 ++ [y1, y2, y3]).length = 6 := by rw [List.length_append, hl0]; rfl
        generalize v0 ++ [y1, y2, y3] = v1 at hw1 hl1 eL1 sL1 s67 D7 ⊢
        generalize upd H7 L1 (.lst v1) = H7' at hw1 eL1 sL1 s67 D7 ⊢
        have hp7 := hp6.same s67
        have eE7 := s67 _ _ eE6
        -- five drawn ones
        refine gs_setQS ⟨.ref L1, rfl, lc_draw (W := fun X H v => W14 K X H pan.length v) (n := 5) (q := 10) (m := M + 4500) wok_W (by decide) (D7.less (by omega)) (xl_dk D7) (fun k H8 m' X' hk5 b8 D8 xl8 Q' q' => ?_) fun A2 u2 H8 b8 D8 nA2 eA2 hl2 hw2 => ?_⟩
        · exact ⟨.ref a, rfl, .int (pan.length : Int), rfl, a, c, r, m', pan.length, rfl, D8, few, fun H9 t e b9 D9 ft hl h3 => q' (.ref t) H9 b9 D9 (w14_of (xl8.but D8 D9 b9).ls ft.sq hl h3)⟩
        have eL18 := b8 _ _ oL1.1 oL1.2.1 eL1
        refine ⟨L1, A2, _, _, rfl, rfl, eL18, eA2, by rw [hl1, hl2]; show 6 + 5 ≤ sizeLine; decide, fun L2 nL2 => ?_⟩
        have sL2 := same_new (o := HO.lst (v1 ++ u2)) nL2
        have eL2 : (upd H8 L2 (.lst (v1 ++ u2))) L2 = some (.lst (v1 ++ u2)) := upd_same
        have oL2 := D8.fresh nL2
        have D9 := D8.same sL2
        have hw3 : ∀ v ∈ v1 ++ u2, W14 K (DkX a r) (upd H8 L2 (.lst (v1 ++ u2))) pan.length v := by
          intro v hv
          rcases List.mem_append.mp hv with h | h
          · exact ((hw1 v h).per ((xl_dk D7).per b8)).per (Per.of sL2)
          · exact (hw2 v h).per (Per.of sL2)
        have hl3 : (v1 ++ u2).length = 11 := by rw [List.length_append, hl1, hl2]
        generalize v1 ++ u2 = v3 at hw3 hl3 eL2 sL2 D9 ⊢
        generalize upd H8 L2 (.lst v3) = H9 at hw3 eL2 sL2 D9 ⊢
        have hp9 := (hp7.but3 D7 b8).same sL2
        have eE9 := sL2 _ _ (b8 _ _ oE.1 oE.2.1 eE7)
        -- five bent ones
        refine gs_setQS ⟨.ref L2, rfl, lc_draw (W := fun X H v => X14 K X H v) (n := 5) (q := 4) (m := M + 4400) wok_X (by decide) (D9.less (by omega)) (xl_dk D9) (fun k H10 m' X' hk5 b10 D10 xl10 Q' q' => ?_) fun A3 u3 H10 b10 D10 nA3 eA3 hl4 hw4 => ?_⟩
        · have hkl : k < v3.length := by omega
          obtain ⟨t, ws, et, hws, hlw, h3⟩ := (hw3 _ (List.getElem_mem hkl)).per ((xl_dk D9).per b10)
          have eL210 := b10 _ _ oL2.1 oL2.2.1 eL2
          refine ⟨.ref a, rfl, .ref L2, rfl, .int (k : Int), rfl, L2, _, (k : Int), _, rfl, rfl, .inl (.inl eL210), atI_nat (List.getElem?_eq_getElem hkl), ?_⟩
          rw [et]
          exact ⟨X', a, c, r, t, m', ws, rfl, D10, xl10, hws H10 (Per.refl _ _), by omega, by omega, h3, fun H11 v b11 D11 xv => q' v H11 b11 D11 xv⟩
        have eL210 := b10 _ _ oL2.1 oL2.2.1 eL2
        refine ⟨L2, A3, _, _, rfl, rfl, eL210, eA3, by rw [hl3, hl4]; show 11 + 5 ≤ sizeLine; decide, fun L3 nL3 => ?_⟩
        have sL3 := same_new (o := HO.lst (v3 ++ u3)) nL3
        have eL3 : (upd H10 L3 (.lst (v3 ++ u3))) L3 = some (.lst (v3 ++ u3)) := upd_same
        have oL3 := D10.fresh nL3
        have D11 := D10.same sL3
        have hw5 : ∀ v ∈ v3 ++ u3, X14 K (DkX a r) (upd H10 L3 (.lst (v3 ++ u3))) v := by
          intro v hv
          rcases List.mem_append.mp hv with h | h
          · exact ((((hw3 v h).per ((xl_dk D9).per b10)).per (Per.of sL3))).x (by omega)
          · exact (hw4 v h).per (Per.of sL3)
        have hl5 : (v3 ++ u3).length = 16 := by rw [List.length_append, hl3, hl4]
        generalize v3 ++ u3 = v5 at hw5 hl5 eL3 sL3 D11 ⊢
        generalize upd H10 L3 (.lst v5) = H11 at hw5 eL3 sL3 D11 ⊢
        have hp11 := (hp9.but3 D9 b10).same sL3
        have eE11 := sL3 _ _ (b10 _ _ oE.1 oE.2.1 eE9)
        -- three odd ones
        refine gs_setQS ⟨.ref L3, rfl, .ref a, rfl, DkX a r, a, c, r, M + 4300, rfl, D11.less (by omega), xl_dk D11, fun H12 vo d b12 D12 wo ho => ?_⟩
        refine ⟨Nat.zero_le _, fun T nT => ⟨by show 3 ≤ sizeLine; decide, fun A4 nA4 => ?_⟩⟩
        have sT := same_new (o := HO.tup []) nT
        have sA4 := same_new (o := HO.lst [vo, .non, .ref T]) nA4
        have eL312 := b12 _ _ oL3.1 oL3.2.1 eL3
        refine ⟨L3, A4, _, _, rfl, rfl, sA4 _ _ (sT _ _ eL312), upd_same, by rw [hl5]; show 16 + 3 ≤ sizeLine; decide, fun L4 nL4 => ?_⟩
        have sL4 := same_new (o := HO.lst (v5 ++ [vo, .non, .ref T])) nL4
        have s12 := sT.trans (sA4.trans sL4)
        have D13 := D12.same s12
        have eT13 : (upd (upd (upd H12 T (.tup [])) A4 (.lst [vo, .non, .ref T])) L4 (.lst (v5 ++ [vo, .non, .ref T]))) T = some (.tup []) := sL4 _ _ (sA4 _ _ upd_same)
        have eL4 : (upd (upd (upd H12 T (.tup [])) A4 (.lst [vo, .non, .ref T])) L4 (.lst (v5 ++ [vo, .non, .ref T]))) L4 = some (.lst (v5 ++ [vo, .non, .ref T])) := upd_same
        have hw6 : ∀ v ∈ v5 ++ [vo, .non, .ref T], X14 K (DkX a r) (upd (upd (upd H12 T (.tup [])) A4 (.lst [vo, .non, .ref T])) L4 (.lst (v5 ++ [vo, .non, .ref T]))) v := by
          intro v hv
          rcases List.mem_append.mp hv with h | h
          · exact ((hw5 v h).per ((xl_dk D11).per b12)).per (Per.of s12)
          · simp only [List.mem_cons, List.not_mem_nil, or_false] at h
            rcases h with rfl | rfl | rfl
            · exact ⟨d, wo.per (Per.of s12), d14_one (odd_s14 d ho)⟩
            · exact ⟨.none, vw_of (fun _ => .non) (show lowB _ = true by decide +kernel) (fun x z => by cases z), d14_one (List.mem_of_getElem? (i := 3) rfl)⟩
            · exact (w14_of (n := 0) (ws := []) (xl_dk D13).ls (.inl (.inl eT13)) rfl (fun x h => by cases h)).x (by decide)
        have hl6 : (v5 ++ [vo, .non, .ref T]).length = 19 := by rw [List.length_append, hl5]; rfl
        have b1213 : But a r H12 (upd (upd (upd H12 T (.tup [])) A4 (.lst [vo, .non, .ref T])) L4 (.lst (v5 ++ [vo, .non, .ref T]))) := But.of s12
        generalize v5 ++ [vo, .non, .ref T] = v6 at hw6 hl6 eL4 sL4 s12 D13 b1213 ⊢
        generalize upd (upd (upd H12 T (.tup [])) A4 (.lst [vo, .non, .ref T])) L4 (.lst v6) = H13 at hw6 eL4 s12 D13 b1213 ⊢
        have hp13 := (hp11.but3 D11 b12).same s12
        have eE13 := s12 _ _ (b12 _ _ oE.1 oE.2.1 eE11)
        refine ⟨.ref L4, rfl, L4, rfl, ⟨_, .inl (.inl eL4)⟩, ?_⟩
        refine for_list (xs := v6) (fun j σ H14 => Same H13 H14 ∧ ∃ x7, σ = [some (.ref sc), some (.ref a), some (.int (0 + (i : Int))), some (.ref p), some (.int (pan.length : Int)), some (.ref aE), some (.ref L4), x7, x8, x9, x10, none, none])
          ⟨Same.refl _, _, rfl⟩ (fun j σ H14 _ hP => .inl (.inl (hP.1 _ _ eL4))) (fun j x σ H14 hx hP => ?_) (fun σ H14 hP => ?_)
        · obtain ⟨s14, x7', rfl⟩ := hP
          obtain ⟨d, wx, hd⟩ := (hw6 x (List.mem_of_getElem? hx)).per (Per.of s14)
          refine gs_noN (gvt_not (gvt_b (K := K) (gv_Right (i := 3) (j := 7) rfl rfl (hp13.same s14).t hg (wx.dq H14 (Per.refl _ _)) hd (gv_inStrL (l := (listD pan.length pan.length).map fun rw => (dStrs (effM pan rw)).shown) (gv_reprAq (i := 7) rfl (wx.dq H14 (Per.refl _ _)) (hd.sh.mono (by decide) (by decide))) (gl_var (i := 5) rfl (s14 _ _ eE13) (dpA_strs _)).gv) (ex_effs hg n5 hd)))) rfl fun H15 s15 => ?_
          exact ⟨s14.trans s15, _, rfl⟩
        · obtain ⟨s14, x7', rfl⟩ := hP
          exact ⟨(D13.same s14).less (by omega), _, _, _, _, _, _, _, _, _, rfl⟩
      · obtain ⟨D2, x2, x3, x4, x5, x6, x7, x8, x9, x10, rfl⟩ := hP
        exact hk _ _ ⟨D2.less (by omega), _, _, _, _, _, _, _, _, _, rfl⟩
    case rest =>
      rintro σ H2 ⟨D2, x2, x3, x4, x5, x6, x7, x8, x9, x10, rfl⟩
      refine gs_seqS (fun σ H3 => Dk3 H3 a c r 900000 ∧ ∃ x2 x3 x4 x5 x6 x7 x8 x9 x10, σ = [some (.ref sc), some (.ref a), x2, x3, x4, x5, x6, x7, x8, x9, x10, none, none]) ?rest2 ?loop2
      case loop2 =>
        intro hk
        intro K1 n1
        refine ⟨upd_same, [(Sum.inr ("on" : Str), .int 0)], rfl, (by show 1 ≤ 15; decide), ?_⟩
        rw [upd_upd]
        have s1' := same_new (o := HO.dK [(Sum.inr ("on" : Str), .int 0)]) n1
        intro K2 n2
        refine ⟨upd_same, [(Sum.inr ("same" : Str), .non)], rfl, (by show 1 ≤ 15; decide), ?_⟩
        rw [upd_upd]
        have s2' := same_new (o := HO.dK [(Sum.inr ("same" : Str), .non)]) n2
        intro K3 n3
        refine ⟨upd_same, [(Sum.inr ("on" : Str), .int 0), (Sum.inr ("off" : Str), .int 1)], rfl, (by show 2 ≤ 15; decide), ?_⟩
        rw [upd_upd]
        have s3' := same_new (o := HO.dK [(Sum.inr ("on" : Str), .int 0), (Sum.inr ("off" : Str), .int 1)]) n3
        refine ⟨by show 1 ≤ sizeLine; decide, fun K4 n4 z4 => ?_⟩
        have s4' := same_new (o := HO.lst [V.str "on"]) n4
        refine ⟨by show 1 ≤ sizeLine; decide, fun K5 n5 => ?_⟩
        have s5' := same_new (o := HO.tup [V.str "on"]) n5
        refine ⟨by show 6 ≤ sizeLine; decide, fun S nS => ?_⟩
        have s6' := same_new (o := HO.lst [V.ref K1, .ref K2, .ref K3, .ref K4, .str "on", .ref K5]) nS
        refine gen_heap (fun HF => Same H2 HF ∧ HF K1 = some (.dK [(Sum.inr ("on" : Str), .int 0)]) ∧ HF K2 = some (.dK [(Sum.inr ("same" : Str), .non)]) ∧ HF K3 = some (.dK [(Sum.inr ("on" : Str), .int 0), (Sum.inr ("off" : Str), .int 1)]) ∧ HF K4 = some (.lst [V.str "on"]) ∧ HF K5 = some (.tup [V.str "on"]) ∧ HF S = some (.lst [V.ref K1, .ref K2, .ref K3, .ref K4, .str "on", .ref K5]))
          ⟨s1'.trans (s2'.trans (s3'.trans (s4'.trans (s5'.trans s6')))), (s2'.trans (s3'.trans (s4'.trans (s5'.trans s6')))) _ _ upd_same, (s3'.trans (s4'.trans (s5'.trans s6'))) _ _ upd_same, (s4'.trans (s5'.trans s6')) _ _ upd_same, (s5'.trans s6') _ _ upd_same, s6' _ _ upd_same, upd_same⟩ fun HF ⟨sF, e1, e2, e3, e4, e5, eS⟩ => ?_
        have two : ∀ (j : Nat) (v : V), ([V.ref K1, .ref K2, .ref K3, .ref K4, .str "on", .ref K5] : List V)[j]? = some v → ∃ d, two14[j]? = some d ∧ Dq K (fun _ => False) HF v d := by
          intro j v hv
          match j, hv with
          | 0, hv => cases hv; exact ⟨_, rfl, .dct1 e1⟩
          | 1, hv => cases hv; exact ⟨_, rfl, .dctN e2⟩
          | 2, hv => cases hv; exact ⟨_, rfl, .dct2 e3⟩
          | 3, hv => cases hv; exact ⟨_, rfl, .lst z4 (fun z => z) e4 (.cons (.str _) .nil)⟩
          | 4, hv => cases hv; exact ⟨_, rfl, .str _⟩
          | 5, hv => cases hv; exact ⟨_, rfl, .tup (.inl (.inl e5)) (.cons (.str _) .nil)⟩
          | j + 6, hv => simp at hv
        refine ⟨S, rfl, ⟨_, .inl (.inl eS)⟩, ?_⟩
        refine for_list (xs := [V.ref K1, .ref K2, .ref K3, .ref K4, .str "on", .ref K5]) (fun j σ H4 => Same HF H4 ∧ ∃ x3 x7, σ = [some (.ref sc), some (.ref a), x2, x3, x4, x5, x6, x7, x8, x9, x10, none, none])
          ⟨Same.refl _, _, _, rfl⟩ (fun j σ H4 _ hP => .inl (.inl (hP.1 _ _ eS))) (fun j x σ H4 hx hP => ?_) (fun σ H4 hP => ?_)
        · obtain ⟨s4, x3', x7', rfl⟩ := hP
          obtain ⟨d, hd2, hdq⟩ := two j x hx
          have hdm := List.mem_of_getElem? hd2
          refine gs_each (K := K) (R := Same) (δ := dPan) (as := pans14) (gvi_list (gv_lst (gva_cons (gv_tup (gva_cons (gv_tup gva_nil) gva_nil)) (gva_cons (gv_tup (gva_cons (gv_tup gva_nil) (gva_cons (gv_tup (gva_cons gv_int gva_nil)) gva_nil))) gva_nil)) (by show 2 ≤ sizeLine; decide))) (fun Ha k σ Hb => Same Ha Hb ∧ ∃ x3, σ = [some (.ref sc), some (.ref a), x2, x3, x4, x5, x6, some x, x8, x9, x10, none, none])
            (fun Ha sa => ⟨Same.refl _, _, rfl⟩) (fun Ha k σ Hb sa hP => hP.1) (fun Ha k pn vp σ Hb Hc sa hl hP sc2 dq => ?_) (fun Ha σ Hb sa hP => ?_)
          · obtain ⟨sb, x3'', rfl⟩ := hP
            have hpm := List.mem_of_getElem? hl
            obtain ⟨pp, rfl, hpp⟩ := panT_dp dq
            have s4c := (s4.trans sa).trans (sb.trans sc2)
            refine gs_noN (gvt_not (gvt_b (K := K) (gv_Right (i := 3) (j := 7) (ex := decide (pn = [[]]) && isOn14 j) rfl rfl hpp (pans_good pn hpm) (Dq.same s4c _ _ hdq) (two_D14 d hdm) (gv_andV ((gv_eqD (gv_var (i := 3) rfl dq) (e := .tuple ([[]].map dInts)) (gv_tup (gva_cons (gv_tup gva_nil) gva_nil)) (shp_rowsT pn) (shp_rowsT [[]])).to (by rw [show dPan pn = .tuple (pn.map dInts) from rfl, eqv_rowsT])) (fun _ => gv_eqTwo (i := 7) rfl hd2 (Dq.same s4c _ _ hdq))) (two_ex hd2 hpm)))) rfl fun H5 s5 => ?_
            exact ⟨(sb.trans sc2).trans s5, _, rfl⟩
          · obtain ⟨sb, x3'', rfl⟩ := hP
            exact ⟨(s4.trans sa).trans sb, _, _, rfl⟩
        · obtain ⟨s4, x3', x7', rfl⟩ := hP
          exact hk _ _ ⟨(D2.same sF).same s4, _, _, _, _, _, _, _, _, _, rfl⟩
      case rest2 =>
        rintro σ H3 ⟨D3, x2, x3, x4, x5, x6, x7, x8, x9, x10, rfl⟩
        refine gs_seqS (fun σ H2 => True) (fun σ H4 _ => ?_) ?_
        · exact q H4
        intro hk
        refine ⟨3, rfl, by decide, by decide, ?_⟩
        refine for_range (n := 3) (fun i σ H4 => Dk3 H4 a c r (900000 - 10000 * i) ∧ ∃ x2 x3 x4 x5 x6 x7 x8 x9 x10, σ = [some (.ref sc), some (.ref a), x2, x3, x4, x5, x6, x7, x8, x9, x10, none, none]) ⟨D3.less (by omega), _, _, _, _, _, _, _, _, _, rfl⟩ (fun i σ H4 hi hP => ?_) (fun σ H4 hP => hk σ H4 trivial)
        obtain ⟨D4, x2, x3, x4, x5, x6, x7, x8, x9, x10, rfl⟩ := hP
        have hD4 : Dk3 H4 a c r (890000 - 10000 * i + 5000) := D4.less (by omega)
        generalize hM : 890000 - 10000 * i = M at hD4
        refine gs_setQS ⟨.ref a, rfl, a, c, r, M + 4800, 10, rfl, hD4, by decide, by decide, fun H5 p pan b5 D5 hp hg hle => ?_⟩
        have few := hg.few
        have pos := hg.pos
        have hlp : (pan.map dInts).length = pan.length := List.length_map _
        refine gs_set1 (K := K) ((gv_lenT (gv_var (i := 3) rfl hp.dp)).to (e := .int (pan.length : Int)) (by rw [hlp])) fun vn H6 s6 dn => ?_
        cases dn
        have hp6 := hp.same s6
        have D6 := D5.same s6
        refine gs_setQS ⟨.ref p, rfl, .ref a, rfl, .int (pan.length : Int), rfl, a, c, r, M + 4700, (pan.length : Int), 20, rfl, D6.less (by omega), by omega, by omega, by decide, by decide, fun H7 tr row b7 D7 ft rng _ => ?_⟩
        have hp7 := hp6.but3 D6 b7
        refine ⟨(pan, row), .cons hp7.dp (.cons (dp_ints ft.sq) .nil), ⟨few, rng⟩, fun v H8 s8 dv => ?_⟩
        have dv : Dp K H8 v (dStrs (effM pan row)) := dv
        obtain ⟨tv, rfl, etv⟩ := dv.strsI
        have D8 := D7.same s8
        have hp8 := hp7.same s8
        have el : (effM pan row).length = pan.length := effM_len pan row
        have e3 : ∀ x ∈ effM pan row, IsW x := fun x hx => eff3 hx
        -- the four
        refine gs_setQS ⟨.ref tv, rfl, .ref a, rfl, .int (pan.length : Int), rfl, a, c, r, M + 4600, pan.length, rfl, D8.less (by omega), few, fun H9 tw ew b9 D9 fw hlw hw3 => ?_⟩
        have hp9 := hp8.but3 D8 b9
        have etv9 := sqT_but3 D8 b9 etv
        have mi : (effM pan row).map V.str = (effM pan row).map V.str := rfl
        refine (gq_rev (gq_var (i := 7) rfl etv9)) _ (Same.refl _) _ fun q1 H10 s10 eq1 => ?_
        refine (gq_cat (gq_from (k := 1) (gq_var (i := 7) rfl (same_sqT s10 etv9)) gv_int) (gq_to (k := 1) (gq_var (i := 7) rfl (same_sqT s10 etv9)) gv_int) (by rw [List.length_drop, List.length_take, List.length_map]; omega)) _ (Same.refl _) _ fun q2 H11 s11 eq2 => ?_
        refine ⟨by show 4 ≤ sizeLine; decide, fun S nS => ?_⟩
        have sS := same_new (o := HO.lst [V.ref tv, .ref tw, .ref q1, .ref q2]) nS
        have eS : (upd H11 S (.lst [V.ref tv, .ref tw, .ref q1, .ref q2])) S = some (.lst [V.ref tv, .ref tw, .ref q1, .ref q2]) := upd_same
        have s9S := s10.trans (s11.trans sS)
        have eq1 := same_sqT (s11.trans sS) eq1
        have eq2 := same_sqT sS eq2
        rw [← List.map_reverse] at eq1
        rw [← List.map_drop, ← List.map_take, ← List.map_append] at eq2
        have D12 := D9.same s9S
        have hp12 := hp9.same s9S
        have etv12 := same_sqT s9S etv9
        have etw12 := same_sqT (K := K) s9S fw.sq
        generalize upd H11 S (.lst [V.ref tv, .ref tw, .ref q1, .ref q2]) = H12 at eS s9S eq1 eq2 D12 hp12 etv12 etw12 ⊢
        have four : ∀ x ∈ ([V.ref tv, .ref tw, .ref q1, .ref q2] : List V), ∃ (t : Addr) (ws : List Str), x = .ref t ∧ SqT K H12 t (ws.map V.str) ∧ ws.length = pan.length ∧ ∀ y ∈ ws, IsW y := by
          intro x hx
          simp only [List.mem_cons, List.not_mem_nil, or_false] at hx
          rcases hx with rfl | rfl | rfl | rfl
          · exact ⟨tv, _, rfl, etv12, el, e3⟩
          · exact ⟨tw, _, rfl, etw12, hlw, hw3⟩
          · exact ⟨q1, _, rfl, eq1, by rw [List.length_reverse]; exact el, fun y hy => e3 y (List.mem_reverse.mp hy)⟩
          · exact ⟨q2, _, rfl, eq2, by rw [List.length_append, List.length_drop, List.length_take]; omega, fun y hy => (List.mem_append.mp hy).elim (fun h => e3 y (List.mem_of_mem_drop h)) fun h => e3 y (List.mem_of_mem_take h)⟩
        refine gs_seqS (fun σ H13 => Same H12 H13 ∧ ∃ x9, σ = [some (.ref sc), some (.ref a), some (.int (0 + (i : Int))), some (.ref p), some (.int (pan.length : Int)), x5, x6, some (.ref tv), some (.ref S), x9, x10, none, none]) ?rest3 ?loop3
        case loop3 =>
          intro hk3
          refine ⟨.ref S, rfl, S, rfl, ⟨_, .inl (.inl eS)⟩, ?_⟩
          refine for_list (xs := [V.ref tv, .ref tw, .ref q1, .ref q2]) (fun j σ H13 => Same H12 H13 ∧ ∃ x9, σ = [some (.ref sc), some (.ref a), some (.int (0 + (i : Int))), some (.ref p), some (.int (pan.length : Int)), x5, x6, some (.ref tv), some (.ref S), x9, x10, none, none])
            ⟨Same.refl _, _, rfl⟩ (fun j σ H13 _ hP => .inl (.inl (hP.1 _ _ eS))) (fun j x σ H13 hx hP => ?_) (fun σ H13 hP => hk3 σ H13 hP)
          obtain ⟨s13, x9', rfl⟩ := hP
          obtain ⟨t, ws, rfl, et, hl, h3⟩ := four x (List.mem_of_getElem? hx)
          have et13 := same_sqT s13 et
          refine gs_noN (gvt_not (gvt_b (K := K) (gv_Right (i := 3) (j := 9) (ex := isEff pan ws) rfl rfl (hp12.same s13).t hg (.tup et13 (dqAll_strsW ws)) (d14_tup (words_s14 h3) (by rw [List.length_map]; omega)) (gv_Best14 (i := 3) (j := 9) rfl rfl (hp12.same s13).dp (dp_strs et13) hg hl rfl) isEff_D))) rfl fun H14 s14 => ?_
          exact ⟨s13.trans s14, _, rfl⟩
        case rest3 =>
          rintro σ H13 ⟨s13, x9', rfl⟩
          have hp13 := hp12.same s13
          have etv13 := same_sqT s13 etv12
          have D13 := D12.same s13
          refine gs_no (gvt_or (c := false) (gvt_not (gvt_b (K := K) (gv_Right (i := 3) (j := 7) (ex := true) rfl rfl hp13.t hg (.tup etv13 (dqAll_strsW _)) (d14_tup (words_s14 e3) (by rw [List.length_map]; omega)) gv_bl ⟨fun _ => ⟨row, rng, rfl⟩, fun _ => rfl⟩))) (fun Hy sy _ => gvt_not (gvt_b (gv_RightT (i := 3) (ex := false) (ws := effM pan row ++ [wSame]) rfl (hp13.same sy).t hg (by rw [List.map_append]; exact gq_cat (gq_var (i := 7) rfl (same_sqT sy etv13)) gq_str1 (by rw [List.length_map, List.length_map, List.length_singleton]; omega)) (fun x hx => (List.mem_append.mp hx).elim (e3 x) fun h => .inl (List.mem_singleton.mp h)) (by rw [List.length_append, List.length_singleton]; omega) (fun _ _ => gv_bl) (ex_false (by
            show (decide (((effM pan row ++ [wSame]).map PyData.str).length = pan.length) && _) = false
            rw [decide_eq_false (by rw [List.length_map, List.length_append, List.length_singleton]; omega), Bool.false_and])))))) rfl fun H14 s14 => ?_
          refine gs_setQS ⟨.ref a, rfl, DkX a r, a, c, r, M + 4400, rfl, (D13.same s14).less (by omega), xl_dk (D13.same s14), fun H15 vo d b15 D15 wo ho => ?_⟩
          have hp15 := (hp13.same s14).but3 (D13.same s14) b15
          have hd := d14_one (odd_s14 d ho)
          have wq := wo.dq H15 (Per.refl _ _)
          refine gs_noN (gvt_not (gvt_b (K := K) (gv_Right (i := 3) (j := 10) (ex := decide ((pan.length : Int) = 1) && decide (d.shown = (PyData.tuple [.str "on"]).shown)) rfl rfl hp15.t hg wq hd (gv_andV (gv_eqI (gv_var (i := 4) rfl (.int _)) gv_int) (fun _ => gv_eqS (gv_reprAq (i := 10) rfl wq (hd.sh.mono (by decide) (by decide))) (gv_reprA (gv_tup (gva_cons gv_str gva_nil)) (.inr ⟨⟨by decide +kernel, by decide +kernel, by decide +kernel, Nat.le_trans (show _ ≤ 100 by decide +kernel) (by decide)⟩, _, .inl rfl⟩)))) ?hex))) rfl fun H16 s16 => ?_
          case hex =>
            have ein : d.shown = (PyData.tuple [.str "on"]).shown ↔ d = .tuple [.str wOn] := ⟨fun e => hd.v.inj (ws := [wOn]) (fun x hx => by rw [List.mem_singleton.mp hx]; exact w3_mem (.inr (.inl rfl))) e, fun e => by rw [e]⟩
            rw [Bool.and_eq_true, decide_eq_true_eq, decide_eq_true_eq, ein]
            constructor
            · rintro ⟨h1, rfl⟩
              have hpn := one_pan hg (by omega)
              rw [hpn]
              exact ex_on1
            · intro hx
              by_cases hw : d = .tuple [.str wOn] ∧ pan.length = 1
              · exact ⟨by omega, hw.1⟩
              · exact absurd hx (no_words (by
                  cases hwb : wordsB d pan.length with
                  | false => rfl
                  | true => exact absurd (odd_words ho pos hwb) hw))
          exact ⟨(D15.same s16).less (by omega), _, _, _, _, _, _, _, _, _, rfl⟩
end
end K14
namespace K14
open PySem PySem.Spec PyProof.Rows L2 Pr
/-! what the top has written -/
theorem all_mk {l : PySem.W.OpenLaw} {w : World} {K : PySem.W.Frag} {h : Heap} {mg : Str → Option Value} {fa f1 f2 f3 f4 f5 f6 f7 f8 f9 f10 f11 f12 f13 f14 f15 f16 f17 f18 f19 f20 f21 f22 f23 : Addr} (X : K.In h) (G : h.Ns mainGlobals mg) (hfa : mg "law" = some (.ref fa))
    {od1 an1 od2 an2 od3 an3 od4 an4 od5 an5 od6 an6 od7 an7 od8 an8 od9 an9 od10 an10 od11 an11 od12 an12 od13 an13 od14 an14 od15 an15 od16 an16 od17 an17 od18 an18 od19 an19 od20 an20 od21 an21 od22 an22 od23 an23 : Option Addr} {sl1 sl2 sl3 sl4 sl5 sl6 sl7 sl8 sl9 sl10 sl11 sl12 sl13 sl14 sl15 sl16 sl17 sl18 sl19 sl20 sl21 sl22 sl23 : Array (Option Value)} {oc1 kV1 dc1 pm1 cd1 ct1 oc2 kV2 dc2 pm2 cd2 ct2 oc3 kV3 dc3 pm3 cd3 ct3 oc4 kV4 dc4 pm4 cd4 ct4 oc5 kV5 dc5 pm5 cd5 ct5 oc6 kV6 dc6 pm6 cd6 ct6 oc7 kV7 dc7 pm7 cd7 ct7 oc8 kV8 dc8 pm8 cd8 ct8 oc9 kV9 dc9 pm9 cd9 ct9 oc10 kV10 dc10 pm10 cd10 ct10 oc11 kV11 dc11 pm11 cd11 ct11 oc12 kV12 dc12 pm12 cd12 ct12 oc13 kV13 dc13 pm13 cd13 ct13 oc14 kV14 dc14 pm14 cd14 ct14 oc15 kV15 dc15 pm15 cd15 ct15 oc16 kV16 dc16 pm16 cd16 ct16 oc17 kV17 dc17 pm17 cd17 ct17 oc18 kV18 dc18 pm18 cd18 ct18 oc19 kV19 dc19 pm19 cd19 ct19 oc20 kV20 dc20 pm20 cd20 ct20 oc21 kV21 dc21 pm21 cd21 ct21 oc22 kV22 dc22 pm22 cd22 ct22 oc23 kV23 dc23 pm23 cd23 ct23 : Value}
    (a1 : PySem.W.nsIn K mainGlobals "no_effect" = some (some (.ref f1))) (l1 : K.lookup f1 = some ⟨oc1, od1, .func (PySem.W.fnOf "no_effect" "no_effect" (defArgs sNo) (defBody sNo) (defScope sNo) .none kV1 dc1 pm1 an1 cd1 ct1), sl1⟩) (c1 : PySem.W.codeIn K cd1 "no_effect" = true) (k1 : PySem.W.keepIn K (.ref f1) = true)
    (a2 : PySem.W.nsIn K mainGlobals "press_effect" = some (some (.ref f2))) (l2 : K.lookup f2 = some ⟨oc2, od2, .func (PySem.W.fnOf "press_effect" "press_effect" (defArgs sPressE) (defBody sPressE) (defScope sPressE) .none kV2 dc2 pm2 an2 cd2 ct2), sl2⟩) (c2 : PySem.W.codeIn K cd2 "press_effect" = true) (k2 : PySem.W.keepIn K (.ref f2) = true)
    (a3 : PySem.W.nsIn K mainGlobals "joined_effect" = some (some (.ref f3))) (l3 : K.lookup f3 = some ⟨oc3, od3, .func (PySem.W.fnOf "joined_effect" "joined_effect" (defArgs sJoin) (defBody sJoin) (defScope sJoin) .none kV3 dc3 pm3 an3 cd3 ct3), sl3⟩) (c3 : PySem.W.codeIn K cd3 "joined_effect" = true) (k3 : PySem.W.keepIn K (.ref f3) = true)
    (a4 : PySem.W.nsIn K mainGlobals "effect_behind_press" = some (some (.ref f4))) (l4 : K.lookup f4 = some ⟨oc4, od4, .func (PySem.W.fnOf "effect_behind_press" "effect_behind_press" (defArgs sBehind) (defBody sBehind) (defScope sBehind) .none kV4 dc4 pm4 an4 cd4 ct4), sl4⟩) (c4 : PySem.W.codeIn K cd4 "effect_behind_press" = true) (k4 : PySem.W.keepIn K (.ref f4) = true)
    (a5 : PySem.W.nsIn K mainGlobals "is_part" = some (some (.ref f5))) (l5 : K.lookup f5 = some ⟨oc5, od5, .func (PySem.W.fnOf "is_part" "is_part" (defArgs sPart) (defBody sPart) (defScope sPart) .none kV5 dc5 pm5 an5 cd5 ct5), sl5⟩) (c5 : PySem.W.codeIn K cd5 "is_part" = true) (k5 : PySem.W.keepIn K (.ref f5) = true)
    (a6 : PySem.W.nsIn K mainGlobals "is_tuple_of_words" = some (some (.ref f6))) (l6 : K.lookup f6 = some ⟨oc6, od6, .func (PySem.W.fnOf "is_tuple_of_words" "is_tuple_of_words" (defArgs sWords) (defBody sWords) (defScope sWords) .none kV6 dc6 pm6 an6 cd6 ct6), sl6⟩) (c6 : PySem.W.codeIn K cd6 "is_tuple_of_words" = true) (k6 : PySem.W.keepIn K (.ref f6) = true)
    (a7 : PySem.W.nsIn K mainGlobals "useful_press" = some (some (.ref f7))) (l7 : K.lookup f7 = some ⟨oc7, od7, .func (PySem.W.fnOf "useful_press" "useful_press" (defArgs sUse) (defBody sUse) (defScope sUse) .none kV7 dc7 pm7 an7 cd7 ct7), sl7⟩) (c7 : PySem.W.codeIn K cd7 "useful_press" = true) (k7 : PySem.W.keepIn K (.ref f7) = true)
    (a8 : PySem.W.nsIn K mainGlobals "row_for" = some (some (.ref f8))) (l8 : K.lookup f8 = some ⟨oc8, od8, .func (PySem.W.fnOf "row_for" "row_for" (defArgs sFor) (defBody sFor) (defScope sFor) .none kV8 dc8 pm8 an8 cd8 ct8), sl8⟩) (c8 : PySem.W.codeIn K cd8 "row_for" = true) (k8 : PySem.W.keepIn K (.ref f8) = true)
    (a9 : PySem.W.nsIn K mainGlobals "_law_draws" = some (some (.ref f9))) (l9 : K.lookup f9 = some ⟨oc9, od9, .func (PySem.W.fnOf "_law_draws" "_law_draws" (defArgs sDraws) (defBody sDraws) (defScope sDraws) .none kV9 dc9 pm9 an9 cd9 ct9), sl9⟩) (c9 : PySem.W.codeIn K cd9 "_law_draws" = true) (k9 : PySem.W.keepIn K (.ref f9) = true)
    (a10 : PySem.W.nsIn K mainGlobals "_law_next" = some (some (.ref f10))) (l10 : K.lookup f10 = some ⟨oc10, od10, .func (PySem.W.fnOf "_law_next" "_law_next" (defArgs sNext) (defBody sNext) (defScope sNext) .none kV10 dc10 pm10 an10 cd10 ct10), sl10⟩) (c10 : PySem.W.codeIn K cd10 "_law_next" = true) (k10 : PySem.W.keepIn K (.ref f10) = true)
    (a11 : PySem.W.nsIn K mainGlobals "_law_panel" = some (some (.ref f11))) (l11 : K.lookup f11 = some ⟨oc11, od11, .func (PySem.W.fnOf "_law_panel" "_law_panel" (defArgs sPanel) (defBody sPanel) (defScope sPanel) .none kV11 dc11 pm11 an11 cd11 ct11), sl11⟩) (c11 : PySem.W.codeIn K cd11 "_law_panel" = true) (k11 : PySem.W.keepIn K (.ref f11) = true)
    (a12 : PySem.W.nsIn K mainGlobals "_law_row" = some (some (.ref f12))) (l12 : K.lookup f12 = some ⟨oc12, od12, .func (PySem.W.fnOf "_law_row" "_law_row" (defArgs sRow) (defBody sRow) (defScope sRow) .none kV12 dc12 pm12 an12 cd12 ct12), sl12⟩) (c12 : PySem.W.codeIn K cd12 "_law_row" = true) (k12 : PySem.W.keepIn K (.ref f12) = true)
    (a13 : PySem.W.nsIn K mainGlobals "_law_effect" = some (some (.ref f13))) (l13 : K.lookup f13 = some ⟨oc13, od13, .func (PySem.W.fnOf "_law_effect" "_law_effect" (defArgs sLEff) (defBody sLEff) (defScope sLEff) .none kV13 dc13 pm13 an13 cd13 ct13), sl13⟩) (c13 : PySem.W.codeIn K cd13 "_law_effect" = true) (k13 : PySem.W.keepIn K (.ref f13) = true)
    (a14 : PySem.W.nsIn K mainGlobals "_law_rows" = some (some (.ref f14))) (l14 : K.lookup f14 = some ⟨oc14, od14, .func (PySem.W.fnOf "_law_rows" "_law_rows" (defArgs sLRows) (defBody sLRows) (defScope sLRows) .none kV14 dc14 pm14 an14 cd14 ct14), sl14⟩) (c14 : PySem.W.codeIn K cd14 "_law_rows" = true) (k14 : PySem.W.keepIn K (.ref f14) = true)
    (a15 : PySem.W.nsIn K mainGlobals "_law_odd" = some (some (.ref f15))) (l15 : K.lookup f15 = some ⟨oc15, od15, .func (PySem.W.fnOf "_law_odd" "_law_odd" (defArgs sOdd) (defBody sOdd) (defScope sOdd) .none kV15 dc15 pm15 an15 cd15 ct15), sl15⟩) (c15 : PySem.W.codeIn K cd15 "_law_odd" = true) (k15 : PySem.W.keepIn K (.ref f15) = true)
    (a16 : PySem.W.nsIn K mainGlobals "_law_words" = some (some (.ref f16))) (l16 : K.lookup f16 = some ⟨oc16, od16, .func (PySem.W.fnOf "_law_words" "_law_words" (defArgs sLWords) (defBody sLWords) (defScope sLWords) .none kV16 dc16 pm16 an16 cd16 ct16), sl16⟩) (c16 : PySem.W.codeIn K cd16 "_law_words" = true) (k16 : PySem.W.keepIn K (.ref f16) = true)
    (a17 : PySem.W.nsIn K mainGlobals "_law_decided" = some (some (.ref f17))) (l17 : K.lookup f17 = some ⟨oc17, od17, .func (PySem.W.fnOf "_law_decided" "_law_decided" (defArgs sDec) (defBody sDec) (defScope sDec) .none kV17 dc17 pm17 an17 cd17 ct17), sl17⟩) (c17 : PySem.W.codeIn K cd17 "_law_decided" = true) (k17 : PySem.W.keepIn K (.ref f17) = true)
    (a18 : PySem.W.nsIn K mainGlobals "_law_layers" = some (some (.ref f18))) (l18 : K.lookup f18 = some ⟨oc18, od18, .func (PySem.W.fnOf "_law_layers" "_law_layers" (defArgs sLays) (defBody sLays) (defScope sLays) .none kV18 dc18 pm18 an18 cd18 ct18), sl18⟩) (c18 : PySem.W.codeIn K cd18 "_law_layers" = true) (k18 : PySem.W.keepIn K (.ref f18) = true)
    (a19 : PySem.W.nsIn K mainGlobals "_law_best" = some (some (.ref f19))) (l19 : K.lookup f19 = some ⟨oc19, od19, .func (PySem.W.fnOf "_law_best" "_law_best" (defArgs sBest) (defBody sBest) (defScope sBest) .none kV19 dc19 pm19 an19 cd19 ct19), sl19⟩) (c19 : PySem.W.codeIn K cd19 "_law_best" = true) (k19 : PySem.W.keepIn K (.ref f19) = true)
    (a20 : PySem.W.nsIn K mainGlobals "_law_is_row" = some (some (.ref f20))) (l20 : K.lookup f20 = some ⟨oc20, od20, .func (PySem.W.fnOf "_law_is_row" "_law_is_row" (defArgs sIsRow) (defBody sIsRow) (defScope sIsRow) .none kV20 dc20 pm20 an20 cd20 ct20), sl20⟩) (c20 : PySem.W.codeIn K cd20 "_law_is_row" = true) (k20 : PySem.W.keepIn K (.ref f20) = true)
    (a21 : PySem.W.nsIn K mainGlobals "_law_right" = some (some (.ref f21))) (l21 : K.lookup f21 = some ⟨oc21, od21, .func (PySem.W.fnOf "_law_right" "_law_right" (defArgs sRight) (defBody sRight) (defScope sRight) .none kV21 dc21 pm21 an21 cd21 ct21), sl21⟩) (c21 : PySem.W.codeIn K cd21 "_law_right" = true) (k21 : PySem.W.keepIn K (.ref f21) = true)
    (a22 : PySem.W.nsIn K mainGlobals "_law_bent" = some (some (.ref f22))) (l22 : K.lookup f22 = some ⟨oc22, od22, .func (PySem.W.fnOf "_law_bent" "_law_bent" (defArgs sBent) (defBody sBent) (defScope sBent) .none kV22 dc22 pm22 an22 cd22 ct22), sl22⟩) (c22 : PySem.W.codeIn K cd22 "_law_bent" = true) (k22 : PySem.W.keepIn K (.ref f22) = true)
    (a23 : PySem.W.nsIn K mainGlobals "law" = some (some (.ref f23))) (l23 : K.lookup f23 = some ⟨oc23, od23, .func (PySem.W.fnOf "law" "law" (defArgs sLaw) (defBody sLaw) (defScope sLaw) .none kV23 dc23 pm23 an23 cd23 ct23), sl23⟩) (c23 : PySem.W.codeIn K cd23 "law" = true) (k23 : PySem.W.keepIn K (.ref f23) = true)
    {odW : Option Addr} {aW : Addr} {slW : Array (Option Value)} {nW : Nat} {tW1 tW2 tW3 : Tok}
    (u_W : PySem.W.nsIn K mainGlobals "WORDS" = some (some (.ref aW)))
    (l_W : K.lookup aW = some ⟨.type "tuple", odW, .seq #[.str "on" tW1, .str "off" tW2, .str "same" tW3] nW, slW⟩)
    (z1 : PySem.W.nsIn K mainGlobals "all" = some none) (z2 : PySem.W.nsIn K mainGlobals "bool" = some none) (z3 : PySem.W.nsIn K mainGlobals "enumerate" = some none) (z4 : PySem.W.nsIn K mainGlobals "int" = some none) (z5 : PySem.W.nsIn K mainGlobals "isinstance" = some none) (z6 : PySem.W.nsIn K mainGlobals "len" = some none) (z7 : PySem.W.nsIn K mainGlobals "list" = some none) (z8 : PySem.W.nsIn K mainGlobals "range" = some none) (z9 : PySem.W.nsIn K mainGlobals "repr" = some none) (z10 : PySem.W.nsIn K mainGlobals "set" = some none) (z11 : PySem.W.nsIn K mainGlobals "sorted" = some none) (z12 : PySem.W.nsIn K mainGlobals "tuple" = some none) (z13 : PySem.W.nsIn K mainGlobals "zip" = some none) :
    ∃ fd : FuncData, (∀ (s : Shared) (v : Value), BindsTo s fd ⟨[v], []⟩ [("_law_script", v)]) ∧ ∀ base : Heap, K.In base → base.Ns mainGlobals mg → FnG l.prog w K mg base 7 fa fd ["_law_script"] (spLaw K) := by
  have e := hfa.symm.trans (PySem.W.mg_of X G a23)
  cases e
  have F1 := fun_mk (st := sNo) l1 c1 k1
  have F2 := fun_mk (st := sPressE) l2 c2 k2
  have F3 := fun_mk (st := sJoin) l3 c3 k3
  have F4 := fun_mk (st := sBehind) l4 c4 k4
  have F5 := fun_mk (st := sPart) l5 c5 k5
  have F6 := fun_mk (st := sWords) l6 c6 k6
  have F7 := fun_mk (st := sUse) l7 c7 k7
  have F8 := fun_mk (st := sFor) l8 c8 k8
  have F9 := fun_mk (st := sDraws) l9 c9 k9
  have F10 := fun_mk (st := sNext) l10 c10 k10
  have F11 := fun_mk (st := sPanel) l11 c11 k11
  have F12 := fun_mk (st := sRow) l12 c12 k12
  have F13 := fun_mk (st := sLEff) l13 c13 k13
  have F14 := fun_mk (st := sLRows) l14 c14 k14
  have F15 := fun_mk (st := sOdd) l15 c15 k15
  have F16 := fun_mk (st := sLWords) l16 c16 k16
  have F17 := fun_mk (st := sDec) l17 c17 k17
  have F18 := fun_mk (st := sLays) l18 c18 k18
  have F19 := fun_mk (st := sBest) l19 c19 k19
  have F20 := fun_mk (st := sIsRow) l20 c20 k20
  have F21 := fun_mk (st := sRight) l21 c21 k21
  have F22 := fun_mk (st := sBent) l22 c22 k22
  have F23 := fun_mk (st := sLaw) l23 c23 k23
  have b1 := F1.binds (ps := ["panel"]) fun _ _ _ _ _ _ us hl => match us, hl with | [_], _ => rfl
  have b2 := F2.binds (ps := ["panel", "button"]) fun _ _ _ _ _ _ us hl => match us, hl with | [_, _], _ => rfl
  have b3 := F3.binds (ps := ["first", "second"]) fun _ _ _ _ _ _ us hl => match us, hl with | [_, _], _ => rfl
  have b4 := F4.binds (ps := ["panel", "effect", "button"]) fun _ _ _ _ _ _ us hl => match us, hl with | [_, _, _], _ => rfl
  have b5 := F5.binds (ps := ["effect", "wanted"]) fun _ _ _ _ _ _ us hl => match us, hl with | [_, _], _ => rfl
  have b6 := F6.binds (ps := ["value", "many"]) fun _ _ _ _ _ _ us hl => match us, hl with | [_, _], _ => rfl
  have b7 := F7.binds (ps := ["panel", "effect", "wanted"]) fun _ _ _ _ _ _ us hl => match us, hl with | [_, _, _], _ => rfl
  have b8 := F8.binds (ps := ["panel", "value"]) fun _ _ _ _ _ _ us hl => match us, hl with | [_, _], _ => rfl
  have b9 := F9.binds (ps := ["_law_script"]) fun _ _ _ _ _ _ us hl => match us, hl with | [_], _ => rfl
  have b10 := F10.binds (ps := ["_law_drawn", "_law_many"]) fun _ _ _ _ _ _ us hl => match us, hl with | [_, _], _ => rfl
  have b11 := F11.binds (ps := ["_law_drawn", "_law_most"]) fun _ _ _ _ _ _ us hl => match us, hl with | [_, _], _ => rfl
  have b12 := F12.binds (ps := ["_law_drawn", "_law_n", "_law_most"]) fun _ _ _ _ _ _ us hl => match us, hl with | [_, _, _], _ => rfl
  have b13 := F13.binds (ps := ["_law_panel_here", "_law_row_here"]) fun _ _ _ _ _ _ us hl => match us, hl with | [_, _], _ => rfl
  have b14 := F14.binds (ps := ["_law_n"]) fun _ _ _ _ _ _ us hl => match us, hl with | [_], _ => rfl
  have b15 := F15.binds (ps := ["_law_drawn"]) fun _ _ _ _ _ _ us hl => match us, hl with | [_], _ => rfl
  have b16 := F16.binds (ps := ["_law_drawn", "_law_n"]) fun _ _ _ _ _ _ us hl => match us, hl with | [_, _], _ => rfl
  have b17 := F17.binds (ps := ["_law_panel_here", "_law_effect_here", "_law_decided_here", "_law_button"]) fun _ _ _ _ _ _ us hl => match us, hl with | [_, _, _, _], _ => rfl
  have b18 := F18.binds (ps := ["_law_panel_here", "_law_effect_here"]) fun _ _ _ _ _ _ us hl => match us, hl with | [_, _], _ => rfl
  have b19 := F19.binds (ps := ["_law_panel_here", "_law_effect_here"]) fun _ _ _ _ _ _ us hl => match us, hl with | [_, _], _ => rfl
  have b20 := F20.binds (ps := ["_law_n", "_law_value"]) fun _ _ _ _ _ _ us hl => match us, hl with | [_, _], _ => rfl
  have b21 := F21.binds (ps := ["_law_panel_here", "_law_value", "_law_exists"]) fun _ _ _ _ _ _ us hl => match us, hl with | [_, _, _], _ => rfl
  have b22 := F22.binds (ps := ["_law_drawn", "_law_value"]) fun _ _ _ _ _ _ us hl => match us, hl with | [_, _], _ => rfl
  exact ⟨_, fun s v => .of_eq rfl, fun base _ _ => ok_law F23 F1 b1 (PySem.W.mg_of X G a1) F2 b2 (PySem.W.mg_of X G a2) F3 b3 (PySem.W.mg_of X G a3) F4 b4 (PySem.W.mg_of X G a4) F5 b5 (PySem.W.mg_of X G a5) F6 b6 (PySem.W.mg_of X G a6) F7 b7 (PySem.W.mg_of X G a7) F8 b8 (PySem.W.mg_of X G a8) F9 b9 (PySem.W.mg_of X G a9) F10 b10 (PySem.W.mg_of X G a10) F11 b11 (PySem.W.mg_of X G a11) F12 b12 (PySem.W.mg_of X G a12) F13 b13 (PySem.W.mg_of X G a13) F14 b14 (PySem.W.mg_of X G a14) F15 b15 (PySem.W.mg_of X G a15) F16 b16 (PySem.W.mg_of X G a16) F17 b17 (PySem.W.mg_of X G a17) F18 b18 (PySem.W.mg_of X G a18) F19 b19 (PySem.W.mg_of X G a19) F20 b20 (PySem.W.mg_of X G a20) F21 b21 (PySem.W.mg_of X G a21) F22 b22 (PySem.W.mg_of X G a22) (PySem.W.mg_none_of X G z1) (PySem.W.mg_none_of X G z2) (PySem.W.mg_none_of X G z3) (PySem.W.mg_none_of X G z4) (PySem.W.mg_none_of X G z5) (PySem.W.mg_none_of X G z6) (PySem.W.mg_none_of X G z7) (PySem.W.mg_none_of X G z8) (PySem.W.mg_none_of X G z9) (PySem.W.mg_none_of X G z10) (PySem.W.mg_none_of X G z11) (PySem.W.mg_none_of X G z12) (PySem.W.mg_none_of X G z13)  (PySem.W.mg_of X G u_W) (fun H => .inr ⟨_, _, _, l_W, rfl, rfl, (show 3 ≤ sizeLine by decide), .cons ⟨_, rfl⟩ (.cons ⟨_, rfl⟩ (.cons ⟨_, rfl⟩ .nil))⟩)⟩
end K14
open PySem PySem.W PyProof.Rows
theorem PySem.Challenge.cw_pressrelease_k14_rows_for_effects_holds : PySem.Challenge.rw_pressrelease_k14_rows_for_effects.Holds := by
  w_on; o_law; k_head; (case hw => w_witness2)
  k_fill
  refine Pr.walkG (l := PySem.Challenge.rw_pressrelease_k14_rows_for_effects) (n := 63) (k := 7) (x := "_law_script") (sp := K14.spLaw) rfl (by decide) rfl ⟨rfl, by decide, by decide⟩ (fun w h Y => PySem.W.kIn_of Y) ?F (fun _ _ a ns hl _ _ hS => ⟨a, ns, rfl, hS, hl, fun _ => rfl⟩)
  case F =>
    intro w mg fa h KX G hmg
    refine' K14.all_mk KX G hmg ?a1 ?l1 ?c1 ?k1 ?a2 ?l2 ?c2 ?k2 ?a3 ?l3 ?c3 ?k3 ?a4 ?l4 ?c4 ?k4 ?a5 ?l5 ?c5 ?k5 ?a6 ?l6 ?c6 ?k6 ?a7 ?l7 ?c7 ?k7 ?a8 ?l8 ?c8 ?k8 ?a9 ?l9 ?c9 ?k9 ?a10 ?l10 ?c10 ?k10 ?a11 ?l11 ?c11 ?k11 ?a12 ?l12 ?c12 ?k12 ?a13 ?l13 ?c13 ?k13 ?a14 ?l14 ?c14 ?k14 ?a15 ?l15 ?c15 ?k15 ?a16 ?l16 ?c16 ?k16 ?a17 ?l17 ?c17 ?k17 ?a18 ?l18 ?c18 ?k18 ?a19 ?l19 ?c19 ?k19 ?a20 ?l20 ?c20 ?k20 ?a21 ?l21 ?c21 ?k21 ?a22 ?l22 ?c22 ?k22 ?a23 ?l23 ?c23 ?k23 ?u_W ?l_W ?z1 ?z2 ?z3 ?z4 ?z5 ?z6 ?z7 ?z8 ?z9 ?z10 ?z11 ?z12 ?z13
    (case a1 => k_is); (case l1 => k_is); (case c1 => k_is); (case k1 => k_is); (case a2 => k_is); (case l2 => k_is); (case c2 => k_is); (case k2 => k_is); (case a3 => k_is); (case l3 => k_is); (case c3 => k_is); (case k3 => k_is)
    (case a4 => k_is); (case l4 => k_is); (case c4 => k_is); (case k4 => k_is); (case a5 => k_is); (case l5 => k_is); (case c5 => k_is); (case k5 => k_is); (case a6 => k_is); (case l6 => k_is); (case c6 => k_is); (case k6 => k_is)
    (case a7 => k_is); (case l7 => k_is); (case c7 => k_is); (case k7 => k_is); (case a8 => k_is); (case l8 => k_is); (case c8 => k_is); (case k8 => k_is); (case a9 => k_is); (case l9 => k_is); (case c9 => k_is); (case k9 => k_is)
    (case a10 => k_is); (case l10 => k_is); (case c10 => k_is); (case k10 => k_is); (case a11 => k_is); (case l11 => k_is); (case c11 => k_is); (case k11 => k_is); (case a12 => k_is); (case l12 => k_is); (case c12 => k_is); (case k12 => k_is)
    (case a13 => k_is); (case l13 => k_is); (case c13 => k_is); (case k13 => k_is); (case a14 => k_is); (case l14 => k_is); (case c14 => k_is); (case k14 => k_is); (case a15 => k_is); (case l15 => k_is); (case c15 => k_is); (case k15 => k_is)
    (case a16 => k_is); (case l16 => k_is); (case c16 => k_is); (case k16 => k_is); (case a17 => k_is); (case l17 => k_is); (case c17 => k_is); (case k17 => k_is); (case a18 => k_is); (case l18 => k_is); (case c18 => k_is); (case k18 => k_is)
    (case a19 => k_is); (case l19 => k_is); (case c19 => k_is); (case k19 => k_is); (case a20 => k_is); (case l20 => k_is); (case c20 => k_is); (case k20 => k_is); (case a21 => k_is); (case l21 => k_is); (case c21 => k_is); (case k21 => k_is)
    (case a22 => k_is); (case l22 => k_is); (case c22 => k_is); (case k22 => k_is); (case a23 => k_is); (case l23 => k_is); (case c23 => k_is); (case k23 => k_is); (case u_W => first | k_is | k_exc | rfl | decide +kernel); (case l_W => first | k_is | k_exc | rfl | decide +kernel); (case z1 => k_is); (case z2 => k_is)
    (case z3 => k_is); (case z4 => k_is); (case z5 => k_is); (case z6 => k_is); (case z7 => k_is); (case z8 => k_is); (case z9 => k_is); (case z10 => k_is); (case z11 => k_is); (case z12 => k_is); (case z13 => k_is)
