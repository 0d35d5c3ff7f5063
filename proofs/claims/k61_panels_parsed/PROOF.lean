import PyProof.Rows.All
import Wide.All
import OpenK.AllK
import Wide.FinOn
import HandS.ForMost
import HandS.TupMul
import HandS.TupAny
import HandS.SetFor
import HandS.Walk
import HandS.EndBits
import KE.GoesEnum
import PyProof.ReprRoads
import HandS.Zip
import HandS.NoneIn
import HandS.IsInst
import HandS.Strs
import HandS.Conv
import PyProof.ListNew
import PyProof.Rows.CountFlat
import HandS.More
import KE.DataMinMax
import HandS.Star
import HandS.SortRule
import HandS.NamedTupSort
import HandS.TupLe
import KE.KSortTup
import KE.SortData
import HandS.CallLocal
import KE.KDictDisplayH
import HandS.Style
import HandS.Dict
import HandS.DictComp
import HandS.FStr
import PyProof.StrLaws
import PyProof.StrLawsRepr
import HandS.Text
import PyProof.StrOps2
import KE.IntTextLaws
import KE.KExcIs
import HandS.Exc
import HandS.ExcIs
import HandS.ExcInit
import HandS.ExcField
import HandS.ExcOwn
import HandS.WordsExc
import HandS.RaiseMore
import PyProof.Rows.StrFirst
import PySem.Challenge.RW_pressrelease_k61_panels_parsed
set_option Elab.async false
set_option linter.all false
set_option maxRecDepth 100000
set_option maxHeartbeats 4000000
/-! A layer for laws that ask repr: a def's promise that also knows that no repr is under way. -/
namespace Pr
open PySem PySem.Spec PyProof.Rows L2

/-! ### promises of defs that may ask repr -/
structure FnG (P : Program) (w : World) (K : PySem.W.Frag) (mg : Str → Option Value) (base : Heap) (k : Nat) (f : Addr) (fd : FuncData) (ps : List Str) (sp : Sp) : Prop where
  len : ∀ vs H Q E, sp vs H Q E → vs.length = ps.length
  go : ∀ (A : Around) (outer : List Env) (s : Shared) (H : Hp) (args : Args) (us : List Value) (vs : List V) (Q : VK) (E : XK), A.guards = some [] → Room k A →
    Env0 P w K mg base A outer s H → BindsTo s fd args (ps.zip us) → Vals vs us → sp vs H Q E →
    codeAny (model P w) A (.call (.ref f) args) (CR CX0 outer P w H s Q E) s

section
variable {P : Program} {w : World} {K : PySem.W.Frag} {mg : Str → Option Value} {base : Heap}
theorem FnG.of {k : Nat} {f : Addr} {fd : FuncData} {ps : List Str} {sp : Sp} (F : FnOk P w K mg base CX0 k f fd ps sp) : FnG P w K mg base k f fd ps sp :=
  ⟨F.len, fun A outer s H args us vs Q E _ hr => F.run A outer s H args us vs Q E hr⟩

/-- a def by its body, where no repr is under way -/
theorem okG {x qual : Str} {st : Stmt} {f : Addr} {fd : FuncData} {N ps : List Str} {k : Nat} {sp : Sp} (F : Fun K x qual st f fd) (S : FnScope N ps (defScope st))
    (len : ∀ vs H Q E, sp vs H Q E → vs.length = ps.length)
    (body : ∀ (cdv : Value) (A : Around) (outer : List Env) (s : Shared) (H : Hp) (vs : List V) (Q : VK) (E : XK), A.guards = some [] →
      Room k (A.deeper (envOfC qual (defScope st) s.heap.objs.size f cdv)) → sp vs H Q E →
      ∃ t, PSs (cxOf CX0 P w K mg base N qual (defScope st) f cdv A outer s H E).nox (defBody st) t ∧ t { nx := fun _ H' => Q .non H', rt := Q } (start N vs) H) :
    FnG P w K mg base (k + 1) f fd ps sp := by
  obtain ⟨oc, od, kV, doc, pm, an, cdv, ct, osl, rfl, lk, hcd⟩ := F.ex
  refine ⟨len, fun A outer s H args us vs Q E hg hr e0 hb r hsp => ?_⟩
  have hin : K.In s.heap := e0.mod.kin.keeps fun b o e => (e0.bs b o e).1
  have hlm : s.heap.NoLimit := e0.mod.nolimit.keeps fun b o e => (e0.bs b o e).1
  refine codeAny_call_function hr.depth (hin _ _ lk) rfl S.co S.gen rfl (PySem.W.codeRec_of hin hcd) (hb _ _ _ _ ?_)
  refine wpAny_newFunctionEnv_cells S.kind (fun ⟨n, v⟩ hy => ?_) fun env he s1 x => ?_
  · rcases S.par n (List.of_mem_zip hy).1 with q | q
    · exact .inl q
    · exact .inr ⟨q, PySem.W.cellsFrom_some _ _ _ (.inl q)⟩
  · subst he
    refine ⟨hlm.keeps x.toInCall.keep, codeAny_func ?_⟩
    obtain ⟨t, ht, hq⟩ := body cdv A outer s H vs Q E hg (hr.deeper _) hsp
    have I := inv_start (CX := CX0) (E := E) S hr.hd e0 (len _ _ _ _ hsp) r x
    refine wpAny_mono (ht.nox.run [] s1 (start N vs) H _ I hq) (fun fl s' hs => ?_) fun e s' hs => hs
    cases fl with
    | ret u => obtain ⟨v, σ', H', J, rv, q⟩ := hs; exact ⟨v, H', J.os, J.bare, J.base, J.hok, rv, q⟩
    | next => obtain ⟨σ', H', J, q⟩ := hs; exact ⟨V.non, H', J.os, J.bare, J.base, J.hok, rfl, q⟩
    | brk => obtain ⟨_, _, _, q⟩ := hs; exact q.elim
    | cont => obtain ⟨_, _, _, q⟩ := hs; exact q.elim
end

section
variable {X : Cx} {k : Nat} {f : Addr} {fd : FuncData} {ps : List Str} {sp : Sp} {x : Str} {p pos : Pos} {e : Expr} {es : List Expr} {t : TA}
/-- f(e, ..) of such a def -/
theorem pe_callG (F : FnG X.prog X.w X.K X.mg X.base k f fd ps sp) (gd : X.A.guards = some []) (hr : Room k X.A) (hg : Gl X x) (hm : X.mg x = some (.ref f)) (hk : PySem.W.keepIn X.K (.ref f) = true) (hb : Binds X.K fd ps [])
    (ha : PA X (e :: es) t) (hdb : (x == ("__debug__" : Str)) = false := by decide) (he : starEach (e :: es) X.env = (false, eval e X.env) :: starEach es X.env := by rfl)
    (hpl : (backTo pos (starEach es X.env)).any (·.1) = false := by rfl) : PE X (.Call (.Name x p) (e :: es) [] pos) (tCall sp [] E0 t) := by
  refine ⟨fun pins s σ H Q I h => wpAny_Call_Name_kw (ld_glob I hg hm ?_ hdb)⟩
  refine PySem.W.callWith_K (h₀ := X.base) I.ok.mod.kin hk (thn (ha.run pos pins s σ H _ I h) fun us s1 ⟨vs, H1, I1, r, q⟩ => ⟨I1.kIn, ?_⟩) he hpl
  have q1 : sp vs H1 Q E0 := by
    have q0 : sp (vs ++ []) H1 Q E0 := q
    rwa [List.append_nil] at q0
  have hl : us.length = ps.length := by rw [← r.length]; exact F.len _ _ _ _ q1
  have hb1 : BindsTo s1 fd ⟨us, []⟩ (ps.zip us) := by
    have := hb s1 us I1.kIn (by rw [List.append_nil]; exact hl)
    rwa [List.append_nil] at this
  refine wpAny_call (codeAny_mono (F.go X.A X.stack s1 H1 ⟨us, []⟩ us vs Q E0 gd hr I1.env0 hb1 r q1) fun r' s' hq => ?_)
  cases r' with
  | error e' => exact hq.elim
  | ok fl =>
    cases fl with
    | ret u => exact I1.after hq
    | next => exact hq.elim
    | brk => exact hq.elim
    | cont => exact hq.elim
end

/-! ### repr of data that holds no dict -/
def rRepr (K : PySem.W.Frag) : List V → Hp → VK → Prop := fun xs H Q => ∃ (a : Addr) (d : PyData), xs = [.ref a] ∧ Dp K H (.ref a) d ∧ d.showable = true ∧ d.hasDict = false ∧ d.depth ≤ 60 ∧ d.shown.length ≤ sizeLine ∧ Q (.str d.shown) H
theorem call_repr {X : Cx} {k : Nat} (gd : X.A.guards = some []) (hr : Room k X.A) : CallR X (.builtin "repr") (rRepr X.K) := by
  intro pins s σ H xs us Q I rv h
  obtain ⟨a, d, rfl, hd, hs, hn, hdep, hz, q⟩ := h
  obtain ⟨u, rfl, rx⟩ := vals1 rv
  cases rx
  obtain ⟨as, r⟩ := Dp.reads I d _ _ hd rfl
  exact repr_of_reads' r hs (PyData.noDict_hsm hn) gd (by have := hr.un; omega) (fun _ _ e => e) (fun h' t tk hk => ⟨.str d.shown, H, I.kept hk, ⟨t, rfl⟩, q⟩) hz

/-! ### the law's own call -/
theorem lawG {P : Program} {w : World} {K : PySem.W.Frag} {mg mb : Str → Option Value} {k : Nat} {fa a : Addr} {fd : FuncData} {x : Str} {sp : Sp} {s1 : Shared} {vs : List Value} {ns : List Int}
    (kin : K.In s1.heap) (nsg : s1.heap.Ns mainGlobals mg) (nsb : s1.heap.Ns builtinsNs mb) (bb : ∀ y : Str, y ≠ "__name__" → mb y = bootBuiltins y) (lim : s1.heap.NoLimit) (g0 : s1.gens = #[])
    (la : s1.heap.get? a = some { cls := .type "list", data := .seq vs.toArray }) (hints : IntsAre vs ns) (few : ns.length ≤ sizeLine) (rm : Room k callerA)
    (F : ∀ base : Heap, K.In base → base.Ns mainGlobals mg → FnG P w K mg base k fa fd [x] sp) (bd : ∀ (s : Shared) (u : Value), BindsTo s fd ⟨[u], []⟩ [(x, u)])
    (wish : ∀ H : Hp, Only H → SqL K H a (ns.map V.int) → sp [.ref a] H (fun v _ => v = .bl true) E0) :
    codeAny (model P w) callerA (.call (.ref fa) ⟨[.ref a], []⟩) (fun r s' => r = .ok (.ret (.bool true)) ∧ OldK s1.heap s'.heap ∧ s'.os = s1.os ∧ AllBare s'.gens) s1 := by
  have rv := vals_ints hints
  have lv := hints.length
  have main : ∀ H : Hp, Only H → SqL K H a (ns.map V.int) → HOk P w H s1.heap → (∀ b, H b ≠ none → b = a) → (H a ≠ none → K.lookup a = none) →
      codeAny (model P w) callerA (.call (.ref fa) ⟨[.ref a], []⟩) (fun r s' => r = .ok (.ret (.bool true)) ∧ OldK s1.heap s'.heap ∧ s'.os = s1.os ∧ AllBare s'.gens) s1 := by
    intro H hO hS hok hA hK
    have out : ∀ {b : Addr} {o : Obj} {es : Array DictEntry} {ep : Nat}, s1.heap.get? b = some o → o.data = .dict es ep → H b = none := fun {b o es ep} e d => by
      cases q : H b with
      | none => rfl
      | some u =>
        obtain rfl : b = a := hA b (by rw [q]; simp)
        rw [la] at e; cases e
        exact nomatch (show Data.seq vs.toArray _ = Data.dict es ep from d)
    have nsH : ∀ {b : Addr} {m : Str → Option Value}, s1.heap.Ns b m → (hidT s1.heap H).Ns b m := fun {b m} ⟨o, es, ep, e, d, r⟩ => ⟨o, es, ep, hidT_get e (out e d), d, r⟩
    have kinH : K.In (hidT s1.heap H) := fun b o e => hidT_get (kin b o e) (by
      cases q : H b with
      | none => rfl
      | some u =>
        obtain rfl : b = a := hA b (by rw [q]; simp)
        rw [hK (by rw [q]; simp)] at e; cases e)
    have md : Mod K mg (hidT s1.heap H) := ⟨kinH, nsH nsg, ⟨mb, nsH nsb, bb⟩, let ⟨mc, h1, h2⟩ := lim; ⟨mc, nsH h1, h2⟩⟩
    have e0 : Env0 P w K mg (hidT s1.heap H) callerA [] s1 H :=
      ⟨rfl, md, fun b o e => of_hidT e, Nat.le_of_eq (hidT_size _ _), trivial, fun b hb => absurd (show b ∈ ([] : List Addr) from hb) (by simp), hok, .of_eq g0⟩
    refine codeAny_mono ((F _ kinH (nsH nsg)).go callerA [] s1 H ⟨[.ref a], []⟩ [.ref a] [.ref a] _ _ rfl rm e0 (bd s1 (.ref a)) (.cons rfl .nil) (wish H hO hS)) fun r s' h => ?_
    cases r with
    | error e => exact h.elim
    | ok fl =>
      cases fl with
      | next => exact h.elim
      | brk => exact h.elim
      | cont => exact h.elim
      | ret u =>
        obtain ⟨v, H', os, bare, un, hok', r', q⟩ := h
        obtain rfl : v = .bl true := q
        obtain rfl : u = Value.bool true := r'
        refine ⟨rfl, OldK.of_keep fun b o e => ?_, os, bare⟩
        rcases hO b with z | ⟨ob, xs, z⟩
        · exact un.keep b o e z (fun y => absurd (show b ∈ ([] : List Addr) from y) (by simp)) (by simp)
        · have e1 := (hok b _ z).1
          rw [e] at e1; cases e1
          exact (hok' b _ (un.frzs b o _ z)).1
  cases hk : K.lookup a with
  | some o =>
    have e := kin a o hk
    rw [la] at e
    cases e
    exact main (fun _ => none) (fun _ => .inl rfl) (.inr ⟨_, vs.toArray, _, hk, rfl, rfl, rfl, by rw [List.size_toArray, lv]; exact few, by simpa using rv⟩)
      (fun b u z => nomatch (show (none : Option HO) = some u from z)) (fun b z => absurd rfl z) fun z => absurd rfl z
  | none =>
    refine main (upd (fun _ => none) a (.frz { cls := .type "list", data := .seq vs.toArray } (.lst (ns.map V.int)))) (fun b => ?_) (.inl (.inr ⟨_, upd_same⟩)) (fun b u z => ?_) (fun b z => ?_) fun _ => hk
    · by_cases hb : b = a
      · subst hb; exact .inr ⟨_, _, upd_same⟩
      · exact .inl (upd_ne hb)
    · by_cases hb : b = a
      · subst hb
        rw [upd_same] at z
        cases z
        exact ⟨la, by rw [List.length_map]; exact few, vs, _, rv, la⟩
      · rw [upd_ne hb] at z; cases z
    · by_cases hb : b = a
      · exact hb
      · exact absurd (upd_ne hb) z

/-- the goal that k_head leaves, from the law's promise -/
theorem walkG {l : PySem.W.OpenLaw} {n k : Nat} {q : Program} {loose : List Str} {XP : (Str → Option Value) → Heap → Prop} {YP : World → Heap → Prop} {d : DefRec} {K : Params → PySem.W.Frag} {sp : PySem.W.Frag → Sp} {x : Str}
    (hn : l.most = some n) (hn2 : n ≤ sizeLine) (hdf : d.params.defaults = []) (hr : Room k callerA) (hY : ∀ (w : World) (h : Heap), YP w h → (K w.params).In h)
    (F : ∀ (w : World) (mg : Str → Option Value) (fa : Addr) (h : Heap), (K w.params).In h → h.Ns mainGlobals mg → mg d.name = some (.ref fa) →
      ∃ fd : FuncData, (∀ (s : Shared) (u : Value), BindsTo s fd ⟨[u], []⟩ [(x, u)]) ∧ ∀ base : Heap, (K w.params).In base → base.Ns mainGlobals mg → FnG l.prog w (K w.params) mg base k fa fd [x] (sp (K w.params)))
    (hsp : ∀ (K : PySem.W.Frag) (H : Hp) (a : Addr) (ns : List Int), ns.length ≤ n → (∀ z ∈ ns, Builtin.Int.intBits z ≤ 1048576) → Only H → SqL K H a (ns.map V.int) → sp K [.ref a] H (fun v _ => v = .bl true) E0) :
    PySem.W.WalkO q loose XP YP l.row.toRowW d [] (fun f vs => PySem.call f vs) := by
  refine Att.attach_callB hn hdf fun w s0 s1 mg mb fa o pm cd doc a vs ns G Y ho hd hcd hmg hobj hints hlen hbits hg => ?_
  obtain ⟨fd, hb, hF⟩ := F w mg fa _ (hY w _ Y) G.T.g hmg
  exact lawG (hY w _ Y) G.T.g G.T.b G.T.builtins G.T.nolimit hg hobj hints (Nat.le_trans hlen hn2) hr hF hb fun H hO hS => hsp (K w.params) H a ns hlen hbits hO hS
end Pr
namespace Pr
open PySem PySem.Spec PyProof.Rows L2

/-- a tuple of which it is known that it has no attributes of its own -/
def FT (H : Hp) (a : Addr) (xs : List V) : Prop := ∃ o : Obj, H a = some (.frz o (.tup xs)) ∧ o.dict = none
theorem FT.sq {K : PySem.W.Frag} {H : Hp} {a : Addr} {xs : List V} (h : FT H a xs) : SqT K H a xs := let ⟨o, e, _⟩ := h; .inl (.inr ⟨o, e⟩)
theorem FT.same {H H' : Hp} {a : Addr} {xs : List V} (e : Same H H') (h : FT H a xs) : FT H' a xs := let ⟨o, q, z⟩ := h; ⟨o, e _ _ q, z⟩
theorem same_sqT {K : PySem.W.Frag} {H H' : Hp} {a : Addr} {xs : List V} (e : Same H H') (h : SqT K H a xs) : SqT K H' a xs := by
  rcases h with (h | ⟨o, h⟩) | h
  · exact .inl (.inl (e _ _ h))
  · exact .inl (.inr ⟨o, e _ _ h⟩)
  · exact .inr h

section
variable {X : Cx}
/-! ### tuple(list), the tuple known -/
def rTupF (K : PySem.W.Frag) : List V → Hp → VK → Prop := fun xs H Q => ∃ p ys, xs = [.ref p] ∧ SqL K H p ys ∧ ∀ l o, H l = none → o.dict = none → Q (.ref l) (upd H l (.frz o (.tup ys)))
theorem call_tupF : CallR X (.type "tuple") (rTupF X.K) := by
  intro pins s σ H xs us Q I r h
  obtain ⟨p, ys, rfl, hq, q⟩ := h
  obtain ⟨u, rfl, rx⟩ := vals1 r
  cases rx
  obtain ⟨its, r', pl, hz⟩ := I.list hq
  have hlen := r'.length
  refine call_tuple_list pl.isList (fun h' kp => ?_) (by simp only [List.size_toArray] <;> omega)
  have I1 : Inv X pins σ H { s with heap := h' } := I.kept (t' := s.toks) kp
  have I2 := I1.laid (t' := s.toks) (h' := h'.push { cls := .type "tuple", data := .seq its.toArray }) (a := h'.objs.size)
    (o := .frz { cls := .type "tuple", data := .seq its.toArray } (.tup ys)) (fun b o e => Heap.get?_push_of_some _ e) (Nat.le_refl _) ⟨Heap.get?_push_size _ rfl, hz, its, r', IsTup.new _ _⟩
  exact ⟨.ref h'.objs.size, _, I2, rfl, q _ _ (I1.hok.fresh (Nat.le_refl _)) rfl⟩

/-! ### t.count(k) -/
def rCntT (K : PySem.W.Frag) : V → List V → Hp → VK → Prop := fun x xs H Q => ∃ (p : Addr) (ns : List Int) (k : Int), x = .ref p ∧ xs = [.int k] ∧ SqT K H p (ns.map V.int) ∧ Q (.int (ns.count k : Nat)) H
theorem mt_tcount : MtR X "tuple.count" (rCntT X.K) := by
  intro pins s σ H x xs v us Q I rx rxs h
  obtain ⟨p, ns, k, rfl, rfl, hs, q⟩ := h
  cases rx
  obtain ⟨u, rfl, t, rfl⟩ := rxs.one
  obtain ⟨its, rv, ⟨⟨cls, dd, data, sl⟩, ho, hc, n, hd⟩, hlen⟩ := I.tuple hs
  simp only at hc hd
  subst hc hd
  have hi := ints_of_vals rv
  refine call_meets PySem.F.slot_tuple_count ⟨_, ho, rfl⟩ PySem.F.entry_tuple_count (PySem.F.args_tuple_count_2 _ _)
    (SeqAt.tuple_countAt p its.toArray n dd sl (.int k t) (eqk k)) ⟨ho, fun y hy => (eqk_gives hi y (by simpa using hy)).at _ _, ?_⟩
  have ec : its.toArray.toList.countP (eqk k) = ns.count k := eqk_count hi
  rw [ec]
  exact ⟨.int (ns.count k : Nat), H, I.tok _, ⟨s.toks, rfl⟩, q⟩

/-- o.m(e, ..), o a tuple that is known -/
def tTM (r : V → List V → Hp → VK → Prop) (to : TE) (t : TA) : TE := fun σ H Q => to σ H fun x H1 => (∃ p xs, x = .ref p ∧ FT H1 p xs) ∧ t σ H1 fun vs H2 => r x vs H2 Q
theorem pe_tm {name : Str} {id : String} {r : V → List V → Hp → VK → Prop} {o e : Expr} {es : List Expr} {apos cpos : Pos} {to : TE} {t : TA} (slot : Slot "tuple" name id) (hty : typeOf (.builtin id) = pure (.type "method_descriptor")) (hm : MtR X id r) (ho : PE X o to) (ha : PA X (e :: es) t)
    (hbase : attributeBase o name X.env (eval o X.env) = eval o X.env := by rfl)
    (hfew : ((backTo cpos (starEach (e :: es) X.env)).all (fun x => !x.1) && (backToKw cpos (keywordEach [] X.env)).all (fun x => x.1.isSome) && decide ((e :: es).length + ([] : List Keyword).length + (if ([] : List Keyword).isEmpty then 0 else 1) < 30)) = true := by rfl)
    (hline : (apos.endLine == cpos.line) = true := by rfl) (hs : starEach (e :: es) X.env = (false, eval e X.env) :: starEach es X.env := by rfl)
    (hplain : (backTo cpos (starEach es X.env)).any (·.1) = false := by rfl) : PE X (.Call (.Attribute o name apos) (e :: es) [] cpos) (tTM r to t) := by
  refine ⟨fun pins s σ H Q I h => wpAny_Call_method_late hbase hfew hline rfl (thn (ho.run pins s σ H _ I h) fun v s1 ⟨x, H1, I1, r1, ⟨p, xs, ex, ob, hp, hdn⟩, q1⟩ => ?_)⟩
  subst ex
  cases r1
  obtain ⟨g1, _, its, _, ⟨o2, g2, hc, _⟩⟩ := I1.hok p _ hp
  rw [g1] at g2
  cases g2
  refine ⟨"tuple", id, PySem.F.plainAttrs_tuple, slot, hty, ⟨ob, g1, hc⟩, fun a e => by cases e; exact ⟨ob, g1, hdn⟩, ?_⟩
  have hA := ha.run cpos pins s1 σ H1 _ I1 q1
  rw [hs] at hA ⊢
  refine Calls.callWith_builtin (by show (false || (backTo cpos (starEach es X.env)).any (·.1)) = false; rw [hplain] <;> rfl) (Calls.evalArgs_plain ?_)
  exact thn hA fun us s2 ⟨vs, H2, I2, r2, q2⟩ => hm pins s2 σ H2 (.ref p) vs (.ref p) us Q I2 rfl r2 q2
end

/-! ### (x,) * 0 and (x,) * 1 -/
theorem tup_mul0 (l : Addr) (y : Value) (n : Nat) (dd : Option Addr) (sl : Array (Option Value)) (u : Tok) :
    Meets (Builtin.«tuple.__mul__» ⟨[.ref l, .int 0 u], []⟩) (fun _ R s => s.heap.get? l = some { cls := .type "tuple", dict := dd, data := .seq #[y] n, slots := sl } ∧
      R (.ok (.ret (Value.ref s.heap.objs.size))) { s with heap := s.heap.push { cls := Value.type "tuple", data := Data.seq #[] }, toks := s.toks }) :=
  .of_wp fun prog w A R s h => by
    obtain ⟨hp, g, d, tk, os⟩ := s
    obtain ⟨hl, h⟩ := h
    have f1 := AutoSeq1.idx_int
    wp_walk using AutoSeq1.wpAny_loadPart' hl
    exact ⟨_, rfl, h⟩
theorem tup_mul1 (l : Addr) (y : Value) (n : Nat) (dd : Option Addr) (sl : Array (Option Value)) (u : Tok) :
    Meets (Builtin.«tuple.__mul__» ⟨[.ref l, .int 1 u], []⟩) (fun _ R s => s.heap.get? l = some { cls := .type "tuple", dict := dd, data := .seq #[y] n, slots := sl } ∧ R (.ok (.ret (.ref l))) s) :=
  .of_wp fun prog w A R s h => by
    obtain ⟨hp, g, d, tk, os⟩ := s
    obtain ⟨hl, h⟩ := h
    have f1 := AutoSeq1.idx_int
    wp_walk using AutoSeq1.wpAny_loadPart' hl
    exact ⟨_, rfl, h⟩
section
variable {X : Cx}
def rRep1 (K : PySem.W.Frag) : R2 := fun x y H Q => ∃ l v, x = .ref l ∧ SqT K H l [v] ∧ ((y = .int 1 ∧ Q (.ref l) H) ∨ (y = .int 0 ∧ ∀ p, H p = none → Q (.ref p) (upd H p (.tup []))))
theorem op_rep1 : OpR X (binaryOp .Mult) (rRep1 X.K) := by
  intro pins s σ H x y v u Q I rx ry h
  obtain ⟨l, z, rfl, hT, h⟩ := h
  cases rx
  obtain ⟨its, r, ⟨⟨cls, dd, data, sl⟩, ho, hc, n, hd⟩, hs⟩ := I.tuple hT
  simp only at hc hd
  subst hc hd
  obtain ⟨a, rfl, ra⟩ := vals1 r
  rcases h with ⟨rfl, q⟩ | ⟨rfl, q⟩
  · obtain ⟨t, rfl⟩ := ry
    refine wpAny_binaryOp_repeat_ref (T := "tuple") (U := "int") (by decide) ⟨_, ho, rfl⟩ (fun s' => typeIs_int s' 1 t) noFill_tuple_mul F.fills_int_mul F.slot_int_rmul repeat_tuple F.slot_int_index.lookup
      (call_meets F.slot_int_rmul (typeIs_int s 1 t) F.entry_int_rmul (F.args_int_rmul_2 _ _) (int_rmul_tuple 1 t l #[a] n dd sl)
        ⟨ho, rfl, ⟨_, ho, rfl⟩, call_meets F.slot_tuple_mul ⟨_, ho, rfl⟩ F.entry_tuple_mul (F.args_tuple_mul_2 _ _) (tup_mul1 l a n dd sl t) ⟨ho, ?_⟩⟩)
    exact ⟨.ref l, H, I, rfl, q⟩
  · obtain ⟨t, rfl⟩ := ry
    refine wpAny_binaryOp_repeat_ref (T := "tuple") (U := "int") (by decide) ⟨_, ho, rfl⟩ (fun s' => typeIs_int s' 0 t) noFill_tuple_mul F.fills_int_mul F.slot_int_rmul repeat_tuple F.slot_int_index.lookup
      (call_meets F.slot_int_rmul (typeIs_int s 0 t) F.entry_int_rmul (F.args_int_rmul_2 _ _) (int_rmul_tuple 0 t l #[a] n dd sl)
        ⟨ho, rfl, ⟨_, ho, rfl⟩, call_meets F.slot_tuple_mul ⟨_, ho, rfl⟩ F.entry_tuple_mul (F.args_tuple_mul_2 _ _) (tup_mul0 l a n dd sl t) ⟨ho, ?_⟩⟩)
    refine ⟨.ref s.heap.objs.size, _, I.laid (t' := s.toks) (o := .tup []) (fun b ob q => Heap.get?_push_of_some _ q) (Nat.le_refl _) ?_, rfl, q _ (I.hok.fresh (Nat.le_refl _))⟩
    exact ⟨Nat.zero_le _, [], .nil, IsTup.new _ _⟩
end

/-! ### enumerate(tuple) -/
theorem enum_newT (l : Addr) (items : Array Value) (n : Nat) (dct : Option Addr) (sl : Array (Option Value)) :
    Meets (Builtin.«enumerate.__new__» ⟨[.type "enumerate", .ref l], []⟩) (fun _ R s => s.heap.get? l = some { cls := .type "tuple", dict := dct, data := .seq items n, slots := sl } ∧
      R (.ok (.ret (.ref (s.heap.push { cls := .type "tuple_iterator", data := .fields #[.ref l, .int 0 0] }).objs.size)))
        { s with heap := (s.heap.push { cls := .type "tuple_iterator", data := .fields #[.ref l, .int 0 0] }).push { cls := .type "enumerate", data := .fields #[.none, .bool false, .ref s.heap.objs.size, rawInt 0, .none, .none] } }) :=
  .of_wp fun prog w A R s h => by
    obtain ⟨hp, g, d, tk, os⟩ := s; obtain ⟨hl, h⟩ := h
    have hsub := sub_enumerate
    have hL : Heap.IsTuple (Shared.heap ⟨hp, g, d, tk, os⟩) l items := ⟨_, hl, rfl, n, rfl⟩
    wp_walk using AutoSeq1.wpAny_loadPart' hl
    refine wpAny_stack_any fun st => wpAny_pure ?_
    split
    · rename_i c _ _ _ _ _
      cases (c == Value.type "enumerate") <;> (wp_walk using AutoSeq1.wpAny_loadPart' hl, wpAny_pyIter_tuple hL; exact ⟨_, rfl, h⟩)
    · wp_walk using AutoSeq1.wpAny_loadPart' hl, wpAny_pyIter_tuple hL
      exact ⟨_, rfl, h⟩
theorem call_enumT {prog : Program} {w : World} {A : Around} {E : Value → Shared → Prop} {s : Shared} {l : Addr} {items : Array Value} {Q : Value → Shared → Prop} (hL : s.heap.IsTuple l items)
    (h : ∀ h', IsEnum h' (s.heap.objs.size + 1) s.heap.objs.size 0 .none → h'.IsTupleIter s.heap.objs.size l 0 → h'.objs.size = s.heap.objs.size + 2 →
      (∀ b o, s.heap.get? b = some o → h'.get? b = some o) → Q (.ref (s.heap.objs.size + 1)) { s with heap := h' }) :
    wpAny (model prog w) A (call (.type "enumerate") [.ref l]) Q E s := by
  obtain ⟨⟨c, dct, dt, sl⟩, hl, hc, n, hd⟩ := hL
  simp only at hc hd
  subst hc hd
  refine callType_new F.called_enumerate (by decide) (F.typeCall_enumerate_1 _) (F.newCall_enumerate_1 _) (fun obj => F.args_object_init_2 obj _) F.entry_enumerate_new (enum_newT l items n dct sl) ⟨hl, ?_⟩
  generalize ho : ({ cls := .type "tuple_iterator", data := .fields #[.ref l, .int 0 0] } : Obj) = o1
  have f1 : o1.isFreed = false := by rw [← ho]; rfl
  generalize hp : ({ cls := .type "enumerate", data := .fields #[.none, .bool false, .ref s.heap.objs.size, rawInt 0, .none, .none] } : Obj) = o2
  have f2 : o2.isFreed = false := by rw [← hp]; rfl
  have hz : (s.heap.push o1).objs.size = s.heap.objs.size + 1 := Heap.size_push ..
  have hg := Heap.get?_push_size (s.heap.push o1) (o := o2) f2
  show _ ∧ _
  rw [hz] at hg ⊢
  have he : IsEnum ((s.heap.push o1).push o2) (s.heap.objs.size + 1) s.heap.objs.size 0 .none := by rw [hp.symm] at hg ⊢; exact hg
  refine ⟨⟨_, he, rfl⟩, h _ he ⟨_, Heap.get?_push_of_some _ (Heap.get?_push_size _ f1), by rw [← ho], by rw [← ho]; rfl⟩ (by rw [Heap.size_push, hz]) fun b o x => Heap.get?_push_of_some _ (Heap.get?_push_of_some _ x)⟩
/-- the tuple at a, each item in a new pair -/
def Itet (K : PySem.W.Frag) (a : Addr) : It :=
  ⟨fun i H => ∃ (xs : List V) (x : V), SqT K H a xs ∧ xs[i]? = some x, fun i H v H' => ∃ T x, v = .ref T ∧ H T = none ∧ H' = upd H T (.tup [.int (i : Nat), x]) ∧ ∀ xs, SqT K H a xs → xs[i]? = some x,
    fun i H => ∃ xs : List V, SqT K H a xs ∧ xs.length ≤ i⟩
theorem turn_enumT {P : Program} {w : World} {K : PySem.W.Frag} {elts : List Expr} {kk : Nat} {tpos : Pos} (a e it : Addr) :
    Turn P w K (.Tuple elts kk tpos) (Itet K a) [e, it] e (fun i h => (∃ old, IsEnum h e it ((i : Nat) : Int) old) ∧ h.IsTupleIter it a i ∧ e ≠ it) where
  mem := by simp
  obj := fun i h st b hb => by
    obtain ⟨⟨old, he⟩, ⟨o, ho, hc, hd⟩, _⟩ := st
    rcases (show b = e ∨ b = it by simpa using hb) with rfl | rfl
    · exact ⟨_, he, fun v q => nomatch q⟩
    · exact ⟨o, ho, fun v q => by rw [hd] at q; cases q⟩
  keep := fun i h h' st k => let ⟨⟨old, he⟩, hi, hne⟩ := st; ⟨⟨old, k e (by simp) _ he⟩, hi.at fun o q => k it (by simp) o q, hne⟩
  item := by
    intro X hP hw hK hc i pins s σ H E I hf st hg
    subst hP hw hK
    obtain ⟨⟨old, he⟩, hit, hne⟩ := st
    obtain ⟨xs, x, hq, hx⟩ := hg
    obtain ⟨its, rv, pt, hz⟩ := I.tuple hq
    have hT : s.heap.IsTuple a its.toArray := pt
    obtain ⟨u, hu, ru⟩ := rv.get hx
    have hel : e < s.heap.objs.size := Heap.lt_size he
    have hil : it < s.heap.objs.size := by obtain ⟨_, q, _⟩ := hit; exact Heap.lt_size q
    have nai : a ≠ it := fun z => by
      subst z
      obtain ⟨o1, q1, c1, _⟩ := hit
      obtain ⟨o2, q2, c2, _⟩ := hT
      rw [q1] at q2; cases q2
      rw [c1] at c2; exact absurd c2 (by decide)
    have nea : e ≠ a := fun z => by
      subst z
      obtain ⟨o2, q2, c2, _⟩ := hT
      have he' : s.heap.get? e = _ := he
      rw [he'] at q2; cases q2
      exact absurd (show Value.type "enumerate" = Value.type "tuple" from c2) (by decide)
    have hi : i < its.toArray.size := by
      have := (List.getElem?_eq_some_iff.mp hu).1
      simpa using this
    refine wpAny_pyNext_enum_itemD (Draws.tuple (A := X.A.in1) (I.ok.hd hc) it a nai its.toArray) he ⟨hit, hT⟩ hi hne (by simp [hne, nea]) fun y h' tk hy ho hit' hT' hsz hk => ?_
    obtain rfl : y = u := by
      have hy' : its.toArray[i]? = some y := hy
      rw [List.getElem?_toArray, hu] at hy'
      exact (Option.some.inj hy').symm
    refine ⟨_, rfl, wpAny_letOwnedTupleGo_enum (s := { s with heap := h', toks := tk + 1 }) ho fun h'' he' sb => ?_⟩
    have hT2 : h''.get? s.heap.objs.size = some { cls := .type "tuple", data := .seq #[.int i tk, y] } := (sb.2 _ (Nat.ne_of_gt hel)).trans hT'
    have new : ObjOk X.prog X.w (upd H s.heap.objs.size (.tup [.int (i : Nat), x])) h'' s.heap.objs.size (.tup [.int (i : Nat), x]) :=
      ⟨by show 2 ≤ sizeLine; decide, [.int i tk, y], .cons ⟨_, rfl⟩ (.cons ru .nil), ⟨_, hT2, rfl, _, rfl⟩⟩
    have I1 := I.turnedNew (t' := tk + 1) (ch := [e, it]) (fun b ob hb q => (sb.2 b (fun z => hb (by simp [z]))).trans (hk b ob (fun z => hb (by simp [z])) (fun z => hb (by simp [z])) q)) hf (Nat.le_refl _) new
    refine ⟨.ref s.heap.objs.size, _, I1, rfl, ⟨_, x, rfl, I.hok.fresh (Nat.le_refl _), rfl, fun ys hys => by rw [I.tuple_inj hys hq]; exact hx⟩, ⟨⟨y, ?_⟩, hit'.1.at fun o q => (sb.2 it (Ne.symm hne)).trans q, hne⟩, fun b hb => ?_⟩
    · rw [show ((i + 1 : Nat) : Int) = (i : Int) + 1 by omega]; exact he'
    · have hb' : b < s.heap.objs.size := by
        rcases (show b = e ∨ b = it by simpa using hb) with rfl | rfl
        · exact hel
        · exact hil
      rw [upd_ne (Nat.ne_of_lt hb')]
      exact (hf b hb).1
  done := by
    intro X hP hw hK hc i pins s σ H E I hf st hg
    subst hP hw hK
    obtain ⟨⟨old, he⟩, hit, hne⟩ := st
    obtain ⟨xs, hq, hx⟩ := hg
    obtain ⟨its, rv, pt, hz⟩ := I.tuple hq
    have hT : s.heap.IsTuple a its.toArray := pt
    obtain ⟨f0, f1, f2, f3, f4, f5⟩ := hf it (by simp)
    have hl := rv.length
    have hT : s.TypeIs (.ref e) "enumerate" := ⟨_, he, rfl⟩
    unfold pyNext
    refine wpAny_bind (wpAny_attempt (wpAny_callSpecial?_slot (name := Str.ofString "__next__") hT F.slot_enumerate_next (wpAny_call_entry F.slot_enumerate_next hT F.entry_enumerate_next ?_ (F.args_enumerate_next_1 _))))
    show wpAny _ _ (field (.ref e) 2 >>= _) _ _ _
    refine wpAny_bind (wpAny_field he rfl (x := .ref it) rfl ?_)
    refine wpAny_bind (wpAny_nextOf_tuple_end (I.ok.hd hc) hit pt (by simp; omega) fun h' x eb hx' => ?_)
    obtain ⟨o, ho, hcx⟩ := hx'
    refine wpAny_bind (wpAny_isInstance (T := "StopIteration") (b := true) ⟨o, ho, hcx⟩ isSubtype_stop ?_)
    exact wpAny_pure ⟨rfl, I.turned (t' := s.toks) (fun b o hb q => eb b o hb q) f0 f1 f3 f4 f5⟩
  self := fun A i s Q E st h => let ⟨⟨_, he⟩, _⟩ := st; wpAny_pyIter_enum he h
def iEnumT (K : PySem.W.Frag) (ta : TA) : TI := fun σ H R => ta σ H fun vs H1 => ∃ a xs, vs = [.ref a] ∧ SqT K H1 a xs ∧ R (Itet K a) H1
theorem pi_enumT {X : Cx} {e : Expr} {ta : TA} {p pos tpos : Pos} {elts : List Expr} {kk : Nat} (hg : Gl X "enumerate") (hm : X.mg "enumerate" = none) (ha : PA X [e] ta)
    (hs : starEach [e] X.env = [(false, eval e X.env)] := by rfl) : PI X (.Tuple elts kk tpos) (.Call (.Name "enumerate" p) [e] [] pos) (iEnumT X.K ta) := by
  refine ⟨fun pins s σ H R I h => Call_ (ld_blt I hg hm boot_enumerate (PyProof.Rows.callWith_type1 (thn (ha.run pos pins s σ H _ I h) fun us s1 ⟨vs, H1, I1, r1, a, xs, ex, hq, q⟩ => ?_) hs rfl))⟩
  subst ex
  obtain ⟨u, rfl, rx⟩ := vals1 r1
  cases rx
  obtain ⟨its, rv, pt, hz⟩ := I1.tuple hq
  refine call_enumT pt fun h' he hit hsz hk => wpAny_pyIter_enum he ?_
  refine ⟨s1.heap.objs.size + 1, [s1.heap.objs.size + 1, s1.heap.objs.size], _, _, H1, rfl, I1.kept (t' := s1.toks) hk, turn_enumT a (s1.heap.objs.size + 1) s1.heap.objs.size, ⟨⟨.none, he⟩, hit, Nat.succ_ne_self _⟩, fun b hb => ?_, q⟩
  have hle : s1.heap.objs.size ≤ b := by
    rcases (show b = s1.heap.objs.size + 1 ∨ b = s1.heap.objs.size by simpa using hb) with rfl | rfl
    · exact Nat.le_add_right _ _
    · exact Nat.le_refl _
  exact I1.fpOk hle (I1.hok.fresh hle)
theorem walk_enumT {K : PySem.W.Frag} {a : Addr} {xs : List V} : Walk (Itet K a) xs.length (fun H => SqT K H a xs) (YPair (fun i => some (.int (i : Nat))) (fun i => xs[i]?)) := by
  refine ⟨fun i _ hi q => ⟨xs, xs[i], q, by simp [hi]⟩, fun _ q => ⟨xs, q, Nat.le_refl _⟩, fun i H v H' _ q y => ?_⟩
  obtain ⟨T, x, h1, h2, h3, h4⟩ := y
  exact ⟨T, .int (i : Nat), x, h1, h2, h3, rfl, h4 xs q⟩
end Pr
namespace Pr
open PySem PySem.Spec PyProof.Rows L2
/-! ### data that repr can show: how deep, how long -/
structure Shw (dep n : Nat) (d : PyData) : Prop where
  sh : d.showable = true
  nd : d.hasDict = false
  dp : d.depth ≤ dep
  ln : d.shown.length ≤ n
theorem Shw.mono {dep dep' n n' : Nat} {d : PyData} (h : Shw dep n d) (h1 : dep ≤ dep') (h2 : n ≤ n') : Shw dep' n' d := ⟨h.sh, h.nd, Nat.le_trans h.dp h1, Nat.le_trans h.ln h2⟩
theorem Shw.int {i : Int} {k : Nat} (h0 : 0 ≤ i) (hk : 0 < k) (hk2 : k ≤ 100) (h : i < 10 ^ k) : Shw 0 k (.int i) := by
  refine ⟨?_, by simp only [PyData.hasDict], by simp [PyData.depth], ?_⟩
  · simp only [PyData.showable, decide_eq_true_eq]
    by_cases hz : i.natAbs = 0
    · rw [hz]; decide
    · refine (Nat.log2_lt hz).mpr ?_
      have h1 : (i.natAbs : Int) < ((10 ^ k : Nat) : Int) := by
        rw [Int.natCast_pow]
        have : ((i.natAbs : Nat) : Int) = i := Int.natAbs_of_nonneg h0
        rw [this]; exact h
      have h2 : i.natAbs < 10 ^ k := by exact_mod_cast h1
      have h3 : (10 : Nat) ^ k ≤ 10 ^ 100 := Nat.pow_le_pow_right (by decide) hk2
      have h4 : (10 : Nat) ^ 100 < 2 ^ 1920 := by decide +kernel
      omega
  · simp only [PyData.shown]
    exact toString_length_le h0 hk h
theorem shownAll_map : ∀ ds : List PyData, PyData.shownAll ds = ds.map PyData.shown
  | [] => rfl
  | d :: r => by simp only [PyData.shownAll, List.map_cons, shownAll_map r]
theorem piled_le {n : Nat} : ∀ {ds : List PyData}, (∀ d ∈ ds, d.shown.length ≤ n) → piled (ds.map PyData.shown) ≤ ds.length * (n + 2)
  | [], _ => by simp [piled_nil]
  | d :: r, h => by
    have h1 := piled_le (ds := r) fun x hx => h x (List.mem_cons_of_mem _ hx)
    have h2 := h d List.mem_cons_self
    rw [List.map_cons, piled_cons, List.length_cons, Nat.succ_mul]
    omega
theorem showAll_of {dep n : Nat} : ∀ {ds : List PyData}, (∀ d ∈ ds, Shw dep n d) → PyData.showableAll ds = true ∧ PyData.hasDictAll ds = false ∧ PyData.depthAll ds ≤ dep
  | [], _ => ⟨by simp only [PyData.showableAll], by simp only [PyData.hasDictAll], by simp [PyData.depthAll]⟩
  | d :: r, h => by
    obtain ⟨h1, h2, h3⟩ := showAll_of (ds := r) fun x hx => h x (List.mem_cons_of_mem _ hx)
    have g := h d List.mem_cons_self
    refine ⟨by simp only [PyData.showableAll, g.sh, h1, Bool.and_self], by simp only [PyData.hasDictAll, g.nd, h2, Bool.or_self], ?_⟩
    simp only [PyData.depthAll]
    exact Nat.max_le.mpr ⟨g.dp, h3⟩
theorem tupleText_len (ts : List Str) : (tupleText ts).length ≤ piled ts + 3 := by
  unfold tupleText
  rw [strLen_append, strLen_append]
  have e1 : (("(" : Str)).length = 1 := by decide +kernel
  have e2 : ((if ts.length == 1 then ",)" else ")" : String) : Str).length ≤ 2 := by
    cases ts.length == 1 <;> decide +kernel
  by_cases h : ts = []
  · subst h
    have : (Str.join ", " ([] : List Str)).length = 0 := by decide +kernel
    omega
  · have := join_length_add ts h
    omega
theorem textFrom_le : ∀ (ts : List Str) (k : Nat) (acc : Str), (textFrom k acc ts).length ≤ acc.length + piled ts
  | [], k, acc => by simp [textFrom, piled_nil]
  | t :: r, k, acc => by
    have h := textFrom_le r (k + 1) (acc ++ (if k > 0 then ", " else "" : String) ++ t)
    rw [piled_cons]
    show (textFrom (k + 1) _ r).length ≤ _
    have e : ((if k > 0 then ", " else "" : String) : Str).length ≤ 2 := by split <;> decide +kernel
    rw [strLen_append, strLen_append] at h
    omega
theorem listText_len (ts : List Str) : (listText ts).length ≤ piled ts + 2 := by
  unfold listText
  rw [strLen_append]
  have h := textFrom_le ts 0 "["
  have e1 : (("[" : Str)).length = 1 := by decide +kernel
  have e2 : (("]" : Str)).length = 1 := by decide +kernel
  omega
theorem Shw.tuple {dep n m : Nat} {ds : List PyData} (h : ∀ d ∈ ds, Shw dep n d) (hm : ds.length ≤ m) : Shw (dep + 1) (m * (n + 2) + 3) (.tuple ds) := by
  obtain ⟨h1, h2, h3⟩ := showAll_of h
  refine ⟨by simp only [PyData.showable, h1], by simp only [PyData.hasDict, h2], by simp only [PyData.depth]; omega, ?_⟩
  simp only [PyData.shown]
  rw [shownAll_map]
  have a1 := tupleText_len (ds.map PyData.shown)
  have a2 := piled_le fun d hd => (h d hd).ln
  have a3 : ds.length * (n + 2) ≤ m * (n + 2) := Nat.mul_le_mul_right _ hm
  omega
theorem Shw.list {dep n m : Nat} {ds : List PyData} (h : ∀ d ∈ ds, Shw dep n d) (hm : ds.length ≤ m) : Shw (dep + 1) (m * (n + 2) + 3) (.list ds) := by
  obtain ⟨h1, h2, h3⟩ := showAll_of h
  refine ⟨by simp only [PyData.showable, h1], by simp only [PyData.hasDict, h2], by simp only [PyData.depth]; omega, ?_⟩
  simp only [PyData.shown]
  rw [shownAll_map]
  have a1 := listText_len (ds.map PyData.shown)
  have a2 := piled_le fun d hd => (h d hd).ln
  have a3 : ds.length * (n + 2) ≤ m * (n + 2) := Nat.mul_le_mul_right _ hm
  omega

/-! ### the deck, panels -/
/-- only what stands at a and c may have changed -/
def But (a c : Addr) (H H' : Hp) : Prop := ∀ b o, b ≠ a → b ≠ c → H b = some o → H' b = some o
theorem But.refl (a c : Addr) (H : Hp) : But a c H H := fun _ _ _ _ h => h
theorem But.trans {a c : Addr} {H H1 H2 : Hp} (x : But a c H H1) (y : But a c H1 H2) : But a c H H2 := fun b o h1 h2 h => y b o h1 h2 (x b o h1 h2 h)
theorem But.of {a c : Addr} {H H' : Hp} (x : Same H H') : But a c H H' := fun b o _ _ h => x b o h
theorem same_new {H : Hp} {p : Addr} {o : HO} (h : H p = none) : Same H (upd H p o) := fun b x e => by
  rw [upd_ne (ne_of_none e h)]; exact e
/-- the deck at a, its cells at c, m draws may still be made -/
def Deck (H : Hp) (a c : Addr) (m : Nat) : Prop :=
  ∃ (cells : List Int) (n : Nat), H a = some (.lst [.ref c, .int (n : Int)]) ∧ H c = some (.lst (cells.map V.int)) ∧ a ≠ c ∧ cells.length ≤ 63 ∧ n + m ≤ 1000000
theorem Deck.same {H H' : Hp} {a c : Addr} {m : Nat} (e : Same H H') (h : Deck H a c m) : Deck H' a c m :=
  let ⟨cs, n, h1, h2, h3⟩ := h; ⟨cs, n, e _ _ h1, e _ _ h2, h3⟩
theorem Deck.less {H : Hp} {a c : Addr} {m m' : Nat} (h : Deck H a c m) (z : m' ≤ m) : Deck H a c m' :=
  let ⟨cs, n, h1, h2, h3, h4, h5⟩ := h; ⟨cs, n, h1, h2, h3, h4, by omega⟩
theorem Deck.apart {H : Hp} {a c : Addr} {m : Nat} (h : Deck H a c m) {b : Addr} {o : HO} (e : H b = some o) (ho : ∀ xs, o ≠ .lst xs) : b ≠ a ∧ b ≠ c := by
  obtain ⟨cs, n, h1, h2, _⟩ := h
  exact ⟨ne_of e h1 (ho _), ne_of e h2 (ho _)⟩
theorem Deck.fresh {H : Hp} {a c : Addr} {m : Nat} (h : Deck H a c m) {b : Addr} (e : H b = none) : b ≠ a ∧ b ≠ c := by
  obtain ⟨cs, n, h1, h2, _⟩ := h
  exact ⟨Ne.symm (ne_of_none h1 e), Ne.symm (ne_of_none h2 e)⟩
theorem FT.but {H H' : Hp} {a c p : Addr} {m : Nat} {xs : List V} (d : Deck H a c m) (b : But a c H H') (h : FT H p xs) : FT H' p xs := by
  obtain ⟨o, e, z⟩ := h
  have q := d.apart e (fun _ => by intro z; cases z)
  exact ⟨o, b _ _ q.1 q.2 e, z⟩
theorem tup_but {H H' : Hp} {a c p : Addr} {m : Nat} {xs : List V} (d : Deck H a c m) (b : But a c H H') (h : H p = some (.tup xs)) : H' p = some (.tup xs) := by
  have q := d.apart h (fun _ => by intro z; cases z)
  exact b _ _ q.1 q.2 h
/-- a panel at p -/
def PanAt (H : Hp) (p : Addr) (pan : List (List Int)) : Prop := ∃ qs : List Addr, FT H p (qs.map V.ref) ∧ Paired (fun q l => FT H q (l.map V.int)) qs pan
theorem PanAt.same {H H' : Hp} {p : Addr} {pan : List (List Int)} (e : Same H H') (h : PanAt H p pan) : PanAt H' p pan :=
  let ⟨qs, h1, h2⟩ := h; ⟨qs, h1.same e, h2.mono fun _ _ x => x.same e⟩
theorem PanAt.but {H H' : Hp} {a c p : Addr} {m : Nat} {pan : List (List Int)} (d : Deck H a c m) (b : But a c H H') (h : PanAt H p pan) : PanAt H' p pan :=
  let ⟨qs, h1, h2⟩ := h; ⟨qs, h1.but d b, h2.mono fun _ _ x => x.but d b⟩
theorem paired_get {α β : Type} {F : α → β → Prop} : ∀ {l1 : List α} {l2 : List β}, Paired F l1 l2 → ∀ (i : Nat) (y : β), l2[i]? = some y → ∃ x, l1[i]? = some x ∧ F x y
  | _, _, .nil, i, y, h => by simp at h
  | _, _, .cons r t, 0, y, h => by simp at h; subst h; exact ⟨_, rfl, r⟩
  | _, _, .cons r t, i + 1, y, h => by
    obtain ⟨x, h1, h2⟩ := paired_get t i y (by simpa using h)
    exact ⟨x, by simpa using h1, h2⟩
/-- what the document calls a panel of at most ten buttons -/
structure Good (pan : List (List Int)) : Prop where
  pos : 1 ≤ pan.length
  few : pan.length ≤ 10
  up : ∀ l ∈ pan, l.Pairwise (· < ·)
  rng : ∀ l ∈ pan, ∀ x ∈ l, 0 ≤ x ∧ x < (pan.length : Int)
  own : ∀ (i : Nat) (l : List Int), pan[i]? = some l → (i : Int) ∉ l
def dInts (l : List Int) : PyData := .tuple (l.map PyData.int)
def dPan (pan : List (List Int)) : PyData := .tuple (pan.map dInts)
section
variable {K : PySem.W.Frag} {H : Hp}
theorem dpAll_ints : ∀ l : List Int, DpAll K H (l.map V.int) (l.map PyData.int)
  | [] => .nil
  | x :: r => .cons (.int x) (dpAll_ints r)
theorem dp_ints {q : Addr} {l : List Int} (h : SqT K H q (l.map V.int)) : Dp K H (.ref q) (dInts l) := .tup h (dpAll_ints l)
theorem dpAll_pan : ∀ {qs : List Addr} {pan : List (List Int)}, Paired (fun q l => FT H q (l.map V.int)) qs pan → DpAll K H (qs.map V.ref) (pan.map dInts)
  | _, _, .nil => .nil
  | _, _, .cons r t => .cons (dp_ints r.sq) (dpAll_pan t)
theorem PanAt.dp {p : Addr} {pan : List (List Int)} (h : PanAt H p pan) : Dp K H (.ref p) (dPan pan) := by
  obtain ⟨qs, h1, h2⟩ := h
  exact .tup h1.sq (dpAll_pan h2)
end
theorem pw_length {n : Nat} : ∀ {l : List Int} {lo : Int}, l.Pairwise (· < ·) → (∀ x ∈ l, lo ≤ x ∧ x < lo + n) → l.length ≤ n := by
  induction n with
  | zero =>
    intro l lo _ h
    cases l with
    | nil => exact Nat.le_refl _
    | cons x r => have := h x List.mem_cons_self; omega
  | succ n ih =>
    intro l lo hp h
    cases l with
    | nil => exact Nat.zero_le _
    | cons x r =>
      have hx := h x List.mem_cons_self
      rw [List.pairwise_cons] at hp
      have := ih (l := r) (lo := lo + 1) hp.2 fun y hy => by
        have h1 := hp.1 y hy
        have h2 := h y (List.mem_cons_of_mem _ hy)
        omega
      rw [List.length_cons]; omega
theorem shw_ints {l : List Int} {m : Nat} (hl : l.length ≤ m) (h : ∀ x ∈ l, 0 ≤ x ∧ x < 10) : Shw 1 (m * 3 + 3) (dInts l) := by
  refine Shw.tuple (fun d hd => ?_) (by rw [List.length_map]; exact hl)
  obtain ⟨x, hx, rfl⟩ := List.mem_map.mp hd
  exact Shw.int (h x hx).1 (by decide) (by decide) (h x hx).2
theorem Good.shw {pan : List (List Int)} (g : Good pan) : Shw 2 353 (dPan pan) := by
  have := Shw.tuple (dep := 1) (n := 33) (m := 10) (ds := pan.map dInts) (fun d hd => ?_) (by rw [List.length_map]; exact g.few)
  · exact this
  · obtain ⟨l, hl, rfl⟩ := List.mem_map.mp hd
    have hf := g.few
    refine shw_ints (m := 10) (pw_length (n := 10) (lo := 0) (g.up l hl) fun x hx => ?_) fun x hx => ?_
    · have := g.rng l hl x hx; omega
    · have := g.rng l hl x hx; omega
end Pr
/-! Presses, as plain functions. -/
namespace Pr
open PySem PySem.Spec PyProof.Rows L2
def intL (n : Nat) : List Int := (List.range n).map fun i : Nat => (i : Int)
theorem mem_intL {n : Nat} {x : Int} : x ∈ intL n ↔ 0 ≤ x ∧ x < (n : Int) := by
  unfold intL
  rw [List.mem_map]
  constructor
  · rintro ⟨i, hi, rfl⟩
    have := List.mem_range.mp hi
    omega
  · rintro ⟨h0, h1⟩
    exact ⟨x.toNat, List.mem_range.mpr (by omega), Int.toNat_of_nonneg h0⟩
theorem intL_up (n : Nat) : (intL n).Pairwise (· < ·) := by
  unfold intL
  rw [List.pairwise_map]
  exact List.pairwise_lt_range.imp fun {a b} (h : a < b) => by omega
theorem intL_len (n : Nat) : (intL n).length = n := by unfold intL; rw [List.length_map, List.length_range]
theorem intL_succ (n : Nat) : intL (n + 1) = intL n ++ [(n : Int)] := by unfold intL; rw [List.range_succ, List.map_append]; rfl
/-- a state of n buttons -/
structure Asc (n : Nat) (st : List Int) : Prop where
  up : st.Pairwise (· < ·)
  rng : ∀ x ∈ st, 0 ≤ x ∧ x < (n : Int)
theorem Asc.nil (n : Nat) : Asc n [] := ⟨List.Pairwise.nil, fun _ h => by cases h⟩
theorem Asc.full (n : Nat) : Asc n (intL n) := ⟨intL_up n, fun _ h => mem_intL.mp h⟩
theorem Asc.filter (n : Nat) (f : Int → Bool) : Asc n ((intL n).filter f) := ⟨(intL_up n).filter f, fun _ h => mem_intL.mp (List.mem_filter.mp h).1⟩
theorem Asc.len {n : Nat} {st : List Int} (h : Asc n st) : st.length ≤ n := pw_length (lo := 0) h.up fun x hx => by have := h.rng x hx; omega
theorem asc_ext : ∀ {l1 l2 : List Int}, l1.Pairwise (· < ·) → l2.Pairwise (· < ·) → (∀ x, x ∈ l1 ↔ x ∈ l2) → l1 = l2
  | [], [], _, _, _ => rfl
  | [], y :: r, _, _, h => absurd ((h y).mpr List.mem_cons_self) (by simp)
  | x :: r, [], _, _, h => absurd ((h x).mp List.mem_cons_self) (by simp)
  | x :: r, y :: t, h1, h2, h => by
    rw [List.pairwise_cons] at h1 h2
    have exy : x = y := by
      rcases List.mem_cons.mp ((h x).mp List.mem_cons_self) with e | e
      · exact e
      · rcases List.mem_cons.mp ((h y).mpr List.mem_cons_self) with e' | e'
        · exact e'.symm
        · have a1 := h2.1 x e
          have a2 := h1.1 y e'
          omega
    subst exy
    have : r = t := asc_ext h1.2 h2.2 fun z => by
      constructor
      · intro hz
        rcases List.mem_cons.mp ((h z).mp (List.mem_cons_of_mem _ hz)) with e | e
        · have := h1.1 z hz; omega
        · exact e
      · intro hz
        rcases List.mem_cons.mp ((h z).mpr (List.mem_cons_of_mem _ hz)) with e | e
        · have := h2.1 z hz; omega
        · exact e
    rw [this]
theorem Asc.eq {n : Nat} {st : List Int} (h : Asc n st) : (intL n).filter (fun x => decide (x ∈ st)) = st :=
  asc_ext ((intL_up n).filter _) h.up fun x => by
    rw [List.mem_filter, decide_eq_true_eq, mem_intL]
    exact ⟨fun q => q.2, fun q => ⟨h.rng x q, q⟩⟩
def pressM (pan : List (List Int)) (st : List Int) (b : Int) : List Int := (intL pan.length).filter fun x => decide (x = b ∨ (x ∈ st ∧ x ∉ pan.getD b.toNat []))
def runM (pan : List (List Int)) (st : List Int) (row : List Int) : List Int := row.foldl (pressM pan) st
theorem pressM_asc (pan : List (List Int)) (st : List Int) (b : Int) : Asc pan.length (pressM pan st b) := Asc.filter _ _
theorem runM_asc {pan : List (List Int)} : ∀ {row st : List Int}, Asc pan.length st → Asc pan.length (runM pan st row)
  | [], _, h => h
  | b :: r, st, _ => runM_asc (row := r) (pressM_asc pan st b)
theorem mem_pressM {pan : List (List Int)} {st : List Int} {b x : Int} : x ∈ pressM pan st b ↔ (0 ≤ x ∧ x < (pan.length : Int)) ∧ (x = b ∨ (x ∈ st ∧ x ∉ pan.getD b.toNat [])) := by
  unfold pressM
  rw [List.mem_filter, decide_eq_true_eq, mem_intL]
theorem runM_take {pan : List (List Int)} {st row : List Int} {k : Nat} {b : Int} (h : row[k]? = some b) : runM pan st (row.take (k + 1)) = pressM pan (runM pan st (row.take k)) b := by
  unfold runM
  rw [List.take_add_one, h, List.foldl_append]; rfl
/-- what press_button makes: the kept ones and the button, sorted -/
theorem press_sorted {pan : List (List Int)} {st : List Int} {b : Int} {ns : List Int} (hs : Asc pan.length st) (h0 : 0 ≤ b) (h1 : b < (pan.length : Int))
    (hp : ns.Perm (st.filter (fun x => decide (x ≠ b ∧ x ∉ pan.getD b.toNat [])) ++ [b])) (hle : ns.Pairwise (· ≤ ·)) : ns = pressM pan st b := by
  have nd0 : (st.filter (fun x => decide (x ≠ b ∧ x ∉ pan.getD b.toNat [])) ++ [b]).Nodup := by
    refine List.nodup_append.mpr ⟨(hs.up.imp fun {x y} (q : x < y) => by omega : st.Nodup).filter _, by simp, fun x hx y hy e => ?_⟩
    rw [List.mem_singleton] at hy
    have := (List.mem_filter.mp hx).2
    rw [decide_eq_true_eq] at this
    exact this.1 (e.trans hy)
  have nd : ns.Nodup := hp.nodup_iff.mpr nd0
  have up : ns.Pairwise (· < ·) := (hle.and nd).imp fun {x y} (q : x ≤ y ∧ x ≠ y) => by omega
  refine asc_ext up (pressM_asc pan st b).up fun x => ?_
  rw [hp.mem_iff, mem_pressM, List.mem_append, List.mem_filter, decide_eq_true_eq, List.mem_singleton]
  constructor
  · rintro (⟨a1, a2⟩ | a)
    · exact ⟨hs.rng x a1, .inr ⟨a1, a2.2⟩⟩
    · subst a; exact ⟨⟨h0, h1⟩, .inl rfl⟩
  · rintro ⟨_, a | a⟩
    · exact .inr a
    · by_cases e : x = b
      · exact .inr e
      · exact .inl ⟨a.1, e, a.2⟩
/-- marks -/
def marks (n : Nat) (st : List Int) : List Bool := (List.range n).map fun i : Nat => decide ((i : Int) ∈ st)
theorem marks_len (n : Nat) (st : List Int) : (marks n st).length = n := by unfold marks; rw [List.length_map, List.length_range]
theorem marks_get {n : Nat} {st : List Int} {i : Nat} (h : i < n) : (marks n st)[i]? = some (decide ((i : Int) ∈ st)) := by
  unfold marks
  rw [List.getElem?_map, List.getElem?_range h]; rfl
theorem marks_set {pan : List (List Int)} {st : List Int} {b : Nat} (hb : b < pan.length) :
    ((List.range pan.length).map fun i : Nat => (decide ((i : Int) ∈ st) && !decide ((i : Int) ∈ pan.getD b []))).set b true = marks pan.length (pressM pan st (b : Int)) := by
  refine List.ext_getElem? fun i => ?_
  by_cases hi : i < pan.length
  · rw [marks_get hi, List.getElem?_set]
    by_cases e : b = i
    · subst e
      rw [if_pos rfl, if_pos (by rw [List.length_map, List.length_range]; exact hi)]
      congr 1
      exact (decide_eq_true (mem_pressM.mpr ⟨⟨by omega, by omega⟩, .inl rfl⟩)).symm
    · rw [if_neg e, List.getElem?_map, List.getElem?_range hi]
      show some _ = some _
      congr 1
      rw [Bool.eq_iff_iff, Bool.and_eq_true, decide_eq_true_eq, Bool.not_eq_true', decide_eq_false_iff_not, decide_eq_true_eq, mem_pressM, Int.toNat_natCast]
      constructor
      · rintro ⟨a, a'⟩
        exact ⟨⟨by omega, by omega⟩, .inr ⟨a, a'⟩⟩
      · rintro ⟨_, a | a⟩
        · omega
        · exact a
  · rw [List.getElem?_eq_none (by rw [List.length_set, List.length_map, List.length_range]; omega), List.getElem?_eq_none (by rw [marks_len]; omega)]
end Pr
/-! Effects, as plain functions; a tuple repeated; zip of two tuples. -/
namespace Pr
open PySem PySem.Spec PyProof.Rows L2
abbrev wSame : Str := "same"
abbrev wOn : Str := "on"
abbrev wOff : Str := "off"
/-- a press of b behind, where c had the word w -/
def wordM (pan : List (List Int)) (c : Int) (w : Str) (b : Int) : Str := if b = c then wOn else if c ∈ pan.getD b.toNat [] then wOff else w
def wordsM (pan : List (List Int)) (row : List Int) (c : Int) : Str := row.foldl (wordM pan c) wSame
def effM (pan : List (List Int)) (row : List Int) : List Str := (List.range pan.length).map fun c : Nat => wordsM pan row (c : Int)
def onM (l : List Int) (b : Int) (c : Nat) : Str := if (c : Int) ∈ l then wOff else if (c : Int) = b then wOn else wSame
def pressW (pan : List (List Int)) (b : Int) : List Str := (List.range pan.length).map (onM (pan.getD b.toNat []) b)
def joinM (xs ys : List Str) : List Str := List.zipWith (fun e l => if l = wSame then e else l) xs ys
theorem effM_len (pan : List (List Int)) (row : List Int) : (effM pan row).length = pan.length := by unfold effM; rw [List.length_map, List.length_range]
theorem pressW_len (pan : List (List Int)) (b : Int) : (pressW pan b).length = pan.length := by unfold pressW; rw [List.length_map, List.length_range]
theorem joinM_len {xs ys : List Str} (h : xs.length = ys.length) : (joinM xs ys).length = ys.length := by unfold joinM; rw [List.length_zipWith, h, Nat.min_self]
theorem effM_nil (pan : List (List Int)) : effM pan [] = List.replicate pan.length wSame := by
  unfold effM
  show (List.range pan.length).map (fun _ => wSame) = _
  rw [List.map_const', List.length_range]
theorem same_ne_on : wSame ≠ wOn := by decide +kernel
theorem same_ne_off : wSame ≠ wOff := by decide +kernel
theorem on_ne_off : wOn ≠ wOff := by decide +kernel
theorem Good.own' {pan : List (List Int)} (g : Good pan) {b : Int} (h0 : 0 ≤ b) (h1 : b < (pan.length : Int)) : b ∉ pan.getD b.toNat [] := by
  have hb : b.toNat < pan.length := by omega
  have := g.own b.toNat pan[b.toNat] (List.getElem?_eq_getElem hb)
  rw [List.getD_eq_getElem?_getD, List.getElem?_eq_getElem hb]
  rw [Int.toNat_of_nonneg h0] at this
  exact this
theorem wordM_join {pan : List (List Int)} (g : Good pan) {b : Int} (h0 : 0 ≤ b) (h1 : b < (pan.length : Int)) (c : Nat) (w : Str) :
    (if onM (pan.getD b.toNat []) b c = wSame then w else onM (pan.getD b.toNat []) b c) = wordM pan (c : Int) w b := by
  unfold onM wordM
  by_cases e : (c : Int) ∈ pan.getD b.toNat []
  · have hne : b ≠ (c : Int) := fun z => g.own' h0 h1 (z ▸ e)
    rw [if_pos e, if_neg hne, if_pos e, if_neg (Ne.symm same_ne_off)]
  · rw [if_neg e, if_neg e]
    by_cases e2 : (c : Int) = b
    · rw [if_pos e2, if_pos e2.symm, if_neg (Ne.symm same_ne_on)]
    · rw [if_neg e2, if_pos rfl, if_neg (Ne.symm e2)]
theorem eff_step {pan : List (List Int)} (g : Good pan) {b : Int} (h0 : 0 ≤ b) (h1 : b < (pan.length : Int)) (row : List Int) : joinM (effM pan row) (pressW pan b) = effM pan (row ++ [b]) := by
  unfold joinM effM pressW
  rw [List.zipWith_map, List.zipWith_self]
  refine List.map_congr_left fun c _ => ?_
  rw [wordM_join g h0 h1]
  unfold wordsM
  rw [List.foldl_append]; rfl
theorem eff_take {pan : List (List Int)} (g : Good pan) {row : List Int} {k : Nat} {b : Int} (hk : row[k]? = some b) (h0 : 0 ≤ b) (h1 : b < (pan.length : Int)) : joinM (effM pan (row.take k)) (pressW pan b) = effM pan (row.take (k + 1)) := by
  rw [eff_step g h0 h1, List.take_add_one, hk]; rfl
theorem word3 (pan : List (List Int)) (c : Int) : ∀ row : List Int, wordsM pan row c = wSame ∨ wordsM pan row c = wOn ∨ wordsM pan row c = wOff := by
  intro row
  unfold wordsM
  have : ∀ (l : List Int) (w : Str), (w = wSame ∨ w = wOn ∨ w = wOff) → (l.foldl (wordM pan c) w = wSame ∨ l.foldl (wordM pan c) w = wOn ∨ l.foldl (wordM pan c) w = wOff) := by
    intro l
    induction l with
    | nil => exact fun w h => h
    | cons b r ih =>
      intro w h
      rw [List.foldl_cons]
      refine ih _ ?_
      unfold wordM
      split
      · exact .inr (.inl rfl)
      · split
        · exact .inr (.inr rfl)
        · exact h
  exact this row _ (.inl rfl)
theorem eff3 {pan : List (List Int)} {row : List Int} {x : Str} (h : x ∈ effM pan row) : x = wSame ∨ x = wOn ∨ x = wOff := by
  unfold effM at h
  obtain ⟨c, _, rfl⟩ := List.mem_map.mp h
  exact word3 pan c row
theorem set_map_range {α : Type} (f : Nat → α) (n j : Nat) (v : α) : ((List.range n).map f).set j v = (List.range n).map fun c => if c = j then v else f c := by
  refine List.ext_getElem? fun i => ?_
  rw [List.getElem?_set, List.getElem?_map]
  by_cases h : i < n
  · rw [List.getElem?_map, List.getElem?_range h, List.length_map, List.length_range]
    by_cases e : j = i
    · subst e; rw [if_pos rfl, if_pos h]; simp
    · rw [if_neg e]; simp [Ne.symm e]
  · rw [List.getElem?_map, List.getElem?_eq_none (by rw [List.length_range]; omega), List.length_map, List.length_range]
    by_cases e : j = i
    · subst e; rw [if_pos rfl, if_neg h]; rfl
    · rw [if_neg e]; rfl
theorem replicate_map_range {α : Type} (n : Nat) (v : α) : List.replicate n v = (List.range n).map fun _ => v := by
  rw [List.map_const', List.length_range]
/-! ### data -/
def dStrs (l : List Str) : PyData := .tuple (l.map PyData.str)
theorem dpAll_strs {K : PySem.W.Frag} {H : Hp} : ∀ l : List Str, DpAll K H (l.map V.str) (l.map PyData.str)
  | [] => .nil
  | x :: r => .cons (.str x) (dpAll_strs r)
theorem dp_strs {K : PySem.W.Frag} {H : Hp} {q : Addr} {l : List Str} (h : SqT K H q (l.map V.str)) : Dp K H (.ref q) (dStrs l) := .tup h (dpAll_strs l)
theorem shw_word {x : Str} (h : x = wSame ∨ x = wOn ∨ x = wOff) : Shw 0 6 (.str x) := by
  refine ⟨by simp only [PyData.showable], by simp only [PyData.hasDict], by simp [PyData.depth], ?_⟩
  simp only [PyData.shown]
  rcases h with rfl | rfl | rfl <;> decide +kernel
theorem shw_words {l : List Str} {m : Nat} (hl : l.length ≤ m) (h : ∀ x ∈ l, x = wSame ∨ x = wOn ∨ x = wOff) : Shw 1 (m * 8 + 3) (dStrs l) := by
  refine Shw.tuple (fun d hd => ?_) (by rw [List.length_map]; exact hl)
  obtain ⟨x, hx, rfl⟩ := List.mem_map.mp hd
  exact shw_word (h x hx)
theorem shw_eff {pan : List (List Int)} (g : Good pan) (row : List Int) : Shw 1 83 (dStrs (effM pan row)) :=
  shw_words (m := 10) (by rw [effM_len]; exact g.few) fun _ h => eff3 h
/-! ### (x,) * n -/
section
variable {X : Cx}
def rRepS (K : PySem.W.Frag) : R2 := fun x y H Q => rRep1 K x y H Q ∨ rRepT K x y H Q
theorem op_repS : OpR X (binaryOp .Mult) (rRepS X.K) := by
  intro pins s σ H x y v u Q I rx ry h
  rcases h with h | h
  · exact op_rep1 pins s σ H x y v u Q I rx ry h
  · exact op_repT pins s σ H x y v u Q I rx ry h
end
theorem rep_flat {α : Type} (n : Nat) (v : α) : (List.replicate n [v]).flatten = List.replicate n v := by
  induction n with
  | zero => rfl
  | succ n ih => rw [List.replicate_succ, List.flatten_cons, ih]; rfl
/-! ### zip of tuples -/
theorem walk_zipT {K : PySem.W.Frag} {a b : Addr} {xs ys : List V} {n : Nat} (hn : n = min xs.length ys.length) : Walk (RZ.ItzT K a b) n (fun H => SqT K H a xs ∧ SqT K H b ys) (YPair (fun i => xs[i]?) (fun i => ys[i]?)) := by
  subst hn
  refine ⟨fun i _ hi q => ?_, fun _ q => ⟨xs, ys, q.1, q.2, by omega⟩, fun i H v H' _ q y => ?_⟩
  · have h1 : i < xs.length := by omega
    have h2 : i < ys.length := by omega
    exact ⟨xs, ys, xs[i], ys[i], q.1, q.2, by simp [h1], by simp [h2]⟩
  · obtain ⟨T, x, z, h1, h2, h3, h4, h5⟩ := y
    exact ⟨T, x, z, h1, h2, h3, h4 xs q.1, h5 ys q.2⟩
theorem str_get {os : List Str} {k : Nat} {x : V} (h : (os.map V.str)[k]? = some x) : ∃ z, os[k]? = some z ∧ x = .str z := by
  rw [List.getElem?_map] at h
  cases e : os[k]? with
  | none => rw [e] at h; cases h
  | some z => rw [e] at h; exact ⟨z, rfl, (Option.some.inj h).symm⟩
theorem int_get {os : List Int} {k : Nat} {x : V} (h : (os.map V.int)[k]? = some x) : ∃ z, os[k]? = some z ∧ x = .int z := by
  rw [List.getElem?_map] at h
  cases e : os[k]? with
  | none => rw [e] at h; cases h
  | some z => rw [e] at h; exact ⟨z, rfl, (Option.some.inj h).symm⟩
theorem joinM_get {xs ys : List Str} {i : Nat} {x y : Str} (hx : xs[i]? = some x) (hy : ys[i]? = some y) : (joinM xs ys)[i]? = some (if y = wSame then x else y) := by
  unfold joinM
  rw [List.getElem?_zipWith, hx, hy]
theorem ixN_nat {n j : Nat} (h : j < n) : ixN n (j : Int) = some j := by
  unfold ixN
  rw [if_pos (by omega), if_pos (by omega)]; rfl
theorem gen_heap {X : Hp} {R : Hp → Prop} (C : Hp → Prop) (hX : C X) (h : ∀ H', C H' → R H') : R X := h X hX
theorem gen_name {i : Nat} {v : V} {σ : L2.St} {X : Hp} {D : L2.St → Hp → Prop} (C : Hp → Prop) (hX : C X) (h : ∀ H', C H' → gName i v σ H' D) : gName i v σ X D := h X hX
theorem tyes {σ : L2.St} {H : Hp} {Q : Bool → Hp → Prop} (h : Q true H) : tYes σ H Q := h
theorem pan_at {H : Hp} {p : Addr} {pan : List (List Int)} (h : PanAt H p pan) {b : Int} (h0 : 0 ≤ b) (h1 : b < (pan.length : Int)) :
    ∃ (qs : List Addr) (q : Addr), FT H p (qs.map V.ref) ∧ atI (qs.map V.ref) b = some (.ref q) ∧ FT H q ((pan.getD b.toNat []).map V.int) ∧ qs.length = pan.length := by
  obtain ⟨qs, hq, hqs⟩ := h
  obtain ⟨n, rfl⟩ : ∃ n : Nat, b = (n : Int) := ⟨b.toNat, (Int.toNat_of_nonneg h0).symm⟩
  have hn : n < pan.length := by omega
  obtain ⟨q', g1, g2⟩ := paired_get hqs n pan[n] (List.getElem?_eq_getElem hn)
  refine ⟨qs, q', hq, atI_nat (by rw [List.getElem?_map, g1]; rfl), ?_, hqs.length⟩
  rw [Int.toNat_natCast, List.getD_eq_getElem?_getD, List.getElem?_eq_getElem hn]
  exact g2
theorem inV_ints {b : Int} (l : List Int) : inV (.int b) (l.map V.int) = decide (b ∈ l) := by
  unfold inV
  rw [List.any_map, Bool.eq_iff_iff, List.any_eq_true, decide_eq_true_eq]
  constructor
  · rintro ⟨x, hx, e⟩
    have e' : x = b := by simpa [eqV] using e
    rw [← e']; exact hx
  · intro h
    exact ⟨b, h, by simp [eqV]⟩
theorem flat_ints : ∀ l : List Int, (l.map V.int).all flatV = true
  | [] => rfl
  | x :: r => by rw [List.map_cons, List.all_cons, flat_ints r]; rfl
end Pr
/-! Draws kept in a list of three: the cells, how many were drawn, what is left of the large ones. -/
namespace Pr
open PySem PySem.Spec PyProof.Rows L2
def Dk3 (H : Hp) (a c r : Addr) (m : Nat) : Prop :=
  ∃ (cells rests : List Int) (n : Nat), H a = some (.lst [.ref c, .int (n : Int), .ref r]) ∧ H c = some (.lst (cells.map V.int)) ∧ H r = some (.lst (rests.map V.int)) ∧ a ≠ c ∧ a ≠ r ∧ c ≠ r ∧
    1 ≤ cells.length ∧ cells.length ≤ 63 ∧ rests.length = cells.length ∧ n + m ≤ 1000000
theorem Dk3.same {H H' : Hp} {a c r : Addr} {m : Nat} (e : Same H H') (h : Dk3 H a c r m) : Dk3 H' a c r m :=
  let ⟨cs, rs, n, h1, h2, h3, h4⟩ := h; ⟨cs, rs, n, e _ _ h1, e _ _ h2, e _ _ h3, h4⟩
theorem Dk3.less {H : Hp} {a c r : Addr} {m m' : Nat} (h : Dk3 H a c r m) (z : m' ≤ m) : Dk3 H a c r m' :=
  let ⟨cs, rs, n, h1, h2, h3, h4, h5, h6, h7, h8, h9, h10⟩ := h; ⟨cs, rs, n, h1, h2, h3, h4, h5, h6, h7, h8, h9, by omega⟩
theorem Dk3.apart {H : Hp} {a c r : Addr} {m : Nat} (h : Dk3 H a c r m) {b : Addr} {o : HO} (e : H b = some o) (ho : ∀ xs, o ≠ .lst xs) : b ≠ a ∧ b ≠ r := by
  obtain ⟨cs, rs, n, h1, h2, h3, _⟩ := h
  exact ⟨ne_of e h1 (ho _), ne_of e h3 (ho _)⟩
theorem Dk3.fresh {H : Hp} {a c r : Addr} {m : Nat} (h : Dk3 H a c r m) {b : Addr} (e : H b = none) : b ≠ a ∧ b ≠ r ∧ b ≠ c := by
  obtain ⟨cs, rs, n, h1, h2, h3, _⟩ := h
  exact ⟨Ne.symm (ne_of_none h1 e), Ne.symm (ne_of_none h3 e), Ne.symm (ne_of_none h2 e)⟩
theorem FT.but3 {H H' : Hp} {a c r p : Addr} {m : Nat} {xs : List V} (d : Dk3 H a c r m) (b : But a r H H') (h : FT H p xs) : FT H' p xs := by
  obtain ⟨o, e, z⟩ := h
  have q := d.apart e (fun _ => by intro z; cases z)
  exact ⟨o, b _ _ q.1 q.2 e, z⟩
theorem tup_but3 {H H' : Hp} {a c r p : Addr} {m : Nat} {xs : List V} (d : Dk3 H a c r m) (b : But a r H H') (h : H p = some (.tup xs)) : H' p = some (.tup xs) := by
  have q := d.apart h (fun _ => by intro z; cases z)
  exact b _ _ q.1 q.2 h
theorem PanAt.but3 {H H' : Hp} {a c r p : Addr} {m : Nat} {pan : List (List Int)} (d : Dk3 H a c r m) (b : But a r H H') (h : PanAt H p pan) : PanAt H' p pan :=
  let ⟨qs, h1, h2⟩ := h; ⟨qs, h1.but3 d b, h2.mono fun _ _ x => x.but3 d b⟩
/-- a store at a place that is none of the deck's -/
theorem Dk3.upd {H : Hp} {a c r : Addr} {m : Nat} {b : Addr} {o : HO} (h : Dk3 H a c r m) (n : b ≠ a ∧ b ≠ r ∧ b ≠ c) : Dk3 (upd H b o) a c r m := by
  obtain ⟨cs, rs, n', h1, h2, h3, h4⟩ := h
  exact ⟨cs, rs, n', by rw [upd_ne (Ne.symm n.1)]; exact h1, by rw [upd_ne (Ne.symm n.2.2)]; exact h2, by rw [upd_ne (Ne.symm n.2.1)]; exact h3, h4⟩
theorem But.free {a c : Addr} {H H' : Hp} {b : Addr} (x : But a c H H') (h1 : b ≠ a) (h2 : b ≠ c) (e : H' b = none) : H b = none := by
  cases q : H b with
  | none => rfl
  | some o => have := x b o h1 h2 q; rw [e] at this; cases this
theorem cut_ints (ns : List Int) (lo hi : Option Int) : ∃ ms : List Int, cutV (ns.map V.int) lo hi = ms.map V.int ∧ ms.length ≤ ns.length := by
  refine ⟨(ns.drop (HT.sIx ns.length 0 lo)).take (HT.sIx ns.length ns.length hi - HT.sIx ns.length 0 lo), ?_, ?_⟩
  · unfold cutV
    rw [List.length_map, List.map_take, List.map_drop]
  · rw [List.length_take, List.length_drop]; omega
/-- the first 63 of at most 63 -/
theorem cut63 (ns : List Int) (h : ns.length ≤ 63) : cutV (ns.map V.int) none (some 63) = ns.map V.int := by
  unfold cutV
  rw [List.length_map]
  have e1 : HT.sIx ns.length 0 none = 0 := rfl
  rw [e1, List.drop_zero]
  refine List.take_of_length_le ?_
  rw [List.length_map]
  have e2 : HT.sIx ns.length ns.length (some 63) = ns.length := by
    rw [show (63 : Int) = ((63 : Nat) : Int) from rfl, HT.sIx_nat]; omega
  rw [e2]; omega
end Pr
/-! Data of any kind, with dicts; its lists stand apart from the deck (a, c). -/
namespace Pr
open PySem PySem.Spec PyProof.Rows L2
mutual
inductive Dq (K : PySem.W.Frag) (N : Addr → Prop) (H : Hp) : V → PyData → Prop
  | non : Dq K N H .non .none
  | bl (b : Bool) : Dq K N H (.bl b) (.bool b)
  | int (i : Int) : Dq K N H (.int i) (.int i)
  | str (x : Str) : Dq K N H (.str x) (.str x)
  | lst {l : Addr} {xs : List V} {ds : List PyData} : l ≠ sysModules → ¬ N l → H l = some (.lst xs) → DqAll K N H xs ds → Dq K N H (.ref l) (.list ds)
  | tup {l : Addr} {xs : List V} {ds : List PyData} : SqT K H l xs → DqAll K N H xs ds → Dq K N H (.ref l) (.tuple ds)
  | dct0 {l : Addr} : H l = some (.dK []) → Dq K N H (.ref l) (.dict [])
  | dct1 {l : Addr} {x : Str} {i : Int} : H l = some (.dK [(Sum.inr x, .int i)]) → Dq K N H (.ref l) (.dict [(.str x, .int i)])
inductive DqAll (K : PySem.W.Frag) (N : Addr → Prop) (H : Hp) : List V → List PyData → Prop
  | nil : DqAll K N H [] []
  | cons {v : V} {vs : List V} {d : PyData} {ds : List PyData} : Dq K N H v d → DqAll K N H vs ds → DqAll K N H (v :: vs) (d :: ds)
end
section
variable {K : PySem.W.Frag} {N : Addr → Prop} {a c : Addr} {H H' : Hp}
theorem DqAll.length : ∀ {vs : List V} {ds : List PyData}, DqAll K N H vs ds → vs.length = ds.length
  | _, _, .nil => rfl
  | _, _, .cons _ t => by rw [List.length_cons, List.length_cons, t.length]
theorem DqAll.append : ∀ {vs us : List V} {ds es : List PyData}, DqAll K N H vs ds → DqAll K N H us es → DqAll K N H (vs ++ us) (ds ++ es)
  | _, _, _, _, .nil, h => h
  | _, _, _, _, .cons r t, h => .cons r (t.append h)
theorem DqAll.get : ∀ {vs : List V} {ds : List PyData}, DqAll K N H vs ds → ∀ (i : Nat) (v : V), vs[i]? = some v → ∃ d, ds[i]? = some d ∧ Dq K N H v d
  | _, _, .nil, i, v, h => by simp at h
  | _, _, .cons r t, 0, v, h => by simp at h; subst h; exact ⟨_, rfl, r⟩
  | _, _, .cons r t, i + 1, v, h => by
    obtain ⟨d, h1, h2⟩ := t.get i v (by simpa using h)
    exact ⟨d, by simpa using h1, h2⟩
theorem DqAll.take : ∀ (n : Nat) {vs : List V} {ds : List PyData}, DqAll K N H vs ds → DqAll K N H (vs.take n) (ds.take n)
  | 0, _, _, _ => by simpa using DqAll.nil
  | n + 1, _, _, .nil => .nil
  | n + 1, _, _, .cons r t => .cons r (t.take n)
theorem DqAll.drop : ∀ (n : Nat) {vs : List V} {ds : List PyData}, DqAll K N H vs ds → DqAll K N H (vs.drop n) (ds.drop n)
  | 0, _, _, h => h
  | n + 1, _, _, .nil => .nil
  | n + 1, _, _, .cons r t => t.drop n
theorem DqAll.reverse : ∀ {vs : List V} {ds : List PyData}, DqAll K N H vs ds → DqAll K N H vs.reverse ds.reverse
  | _, _, .nil => .nil
  | _, _, .cons r t => by rw [List.reverse_cons, List.reverse_cons]; exact t.reverse.append (.cons r .nil)
theorem DqAll.rep (n : Nat) {vs : List V} {ds : List PyData} (h : DqAll K N H vs ds) : DqAll K N H (List.replicate n vs).flatten (List.replicate n ds).flatten := by
  induction n with
  | zero => exact .nil
  | succ n ih => rw [List.replicate_succ, List.replicate_succ, List.flatten_cons, List.flatten_cons]; exact h.append ih
theorem dqAll_ints : ∀ l : List Int, DqAll K N H (l.map V.int) (l.map PyData.int)
  | [] => .nil
  | x :: r => .cons (.int x) (dqAll_ints r)
theorem dq_ints {q : Addr} {l : List Int} (h : SqT K H q (l.map V.int)) : Dq K N H (.ref q) (dInts l) := .tup h (dqAll_ints l)
theorem dqAll_pan : ∀ {qs : List Addr} {pan : List (List Int)}, Paired (fun q l => FT H q (l.map V.int)) qs pan → DqAll K N H (qs.map V.ref) (pan.map dInts)
  | _, _, .nil => .nil
  | _, _, .cons r t => .cons (dq_ints r.sq) (dqAll_pan t)
mutual
theorem Dq.keep (hs : ∀ l o, ¬ N l → H l = some o → H' l = some o) (ht : ∀ l xs, SqT K H l xs → SqT K H' l xs) (hk : ∀ l kvs, H l = some (.dK kvs) → H' l = some (.dK kvs)) : ∀ (d : PyData) (v : V), Dq K N H v d → Dq K N H' v d
  | .none, _, h => by cases h; exact .non
  | .bool b, _, h => by cases h; exact .bl b
  | .int i, _, h => by cases h; exact .int i
  | .str x, _, h => by cases h; exact .str x
  | .list ds, _, h => by
    cases h with
    | lst h1 h2 e q => exact .lst h1 h2 (hs _ _ h2 e) (Dq.keepAll hs ht hk ds _ q)
  | .tuple ds, _, h => by
    cases h with
    | tup e q => exact .tup (ht _ _ e) (Dq.keepAll hs ht hk ds _ q)
  | .dict kvs, _, h => by
    cases h with
    | dct0 e => exact .dct0 (hk _ _ e)
    | dct1 e => exact .dct1 (hk _ _ e)
theorem Dq.keepAll (hs : ∀ l o, ¬ N l → H l = some o → H' l = some o) (ht : ∀ l xs, SqT K H l xs → SqT K H' l xs) (hk : ∀ l kvs, H l = some (.dK kvs) → H' l = some (.dK kvs)) : ∀ (ds : List PyData) (vs : List V), DqAll K N H vs ds → DqAll K N H' vs ds
  | [], _, h => by cases h; exact .nil
  | d :: ds, _, h => by
    cases h with
    | cons r t => exact .cons (Dq.keep hs ht hk d _ r) (Dq.keepAll hs ht hk ds _ t)
end
theorem Deck.sqT {m : Nat} (D : Deck H a c m) (b : But a c H H') {l : Addr} {xs : List V} (h : SqT K H l xs) : SqT K H' l xs := by
  rcases h with (h | ⟨o, h⟩) | h
  · exact .inl (.inl (b _ _ (D.apart h (fun _ => by intro z; cases z)).1 (D.apart h (fun _ => by intro z; cases z)).2 h))
  · exact .inl (.inr ⟨o, b _ _ (D.apart h (fun _ => by intro z; cases z)).1 (D.apart h (fun _ => by intro z; cases z)).2 h⟩)
  · exact .inr h
theorem Deck.dk {m : Nat} (D : Deck H a c m) (l : Addr) (kvs : List (Key × V)) (h : H l = some (.dK kvs)) : l ≠ a ∧ l ≠ c := D.apart h (fun _ => by intro z; cases z)
theorem apart_N (na : N a) (nc : N c) {l : Addr} (h : ¬ N l) : l ≠ a ∧ l ≠ c := ⟨fun e => h (by rw [e]; exact na), fun e => h (by rw [e]; exact nc)⟩
theorem Dq.but {m : Nat} (na : N a) (nc : N c) (D : Deck H a c m) (b : But a c H H') {v : V} {d : PyData} (h : Dq K N H v d) : Dq K N H' v d :=
  Dq.keep (fun l o h1 e => b l o (apart_N na nc h1).1 (apart_N na nc h1).2 e) (fun _ _ e => D.sqT b e) (fun l kvs e => b _ _ (D.dk l kvs e).1 (D.dk l kvs e).2 e) d v h
theorem DqAll.but {m : Nat} (na : N a) (nc : N c) (D : Deck H a c m) (b : But a c H H') {v : List V} {d : List PyData} (h : DqAll K N H v d) : DqAll K N H' v d :=
  Dq.keepAll (fun l o h1 e => b l o (apart_N na nc h1).1 (apart_N na nc h1).2 e) (fun _ _ e => D.sqT b e) (fun l kvs e => b _ _ (D.dk l kvs e).1 (D.dk l kvs e).2 e) d v h
mutual
theorem Dq.same (e : Same H H') : ∀ (d : PyData) (v : V), Dq K N H v d → Dq K N H' v d
  | .none, _, h => by cases h; exact .non
  | .bool b, _, h => by cases h; exact .bl b
  | .int i, _, h => by cases h; exact .int i
  | .str x, _, h => by cases h; exact .str x
  | .list ds, _, h => by
    cases h with
    | lst h1 h2 q r => exact .lst h1 h2 (e _ _ q) (Dq.sameAll e ds _ r)
  | .tuple ds, _, h => by
    cases h with
    | tup q r => exact .tup (same_sqT e q) (Dq.sameAll e ds _ r)
  | .dict kvs, _, h => by
    cases h with
    | dct0 q => exact .dct0 (e _ _ q)
    | dct1 q => exact .dct1 (e _ _ q)
theorem Dq.sameAll (e : Same H H') : ∀ (ds : List PyData) (vs : List V), DqAll K N H vs ds → DqAll K N H' vs ds
  | [], _, h => by cases h; exact .nil
  | d :: ds, _, h => by
    cases h with
    | cons r t => exact .cons (Dq.same e d _ r) (Dq.sameAll e ds _ t)
end
/-- its built-in type -/
def tyD : PyData → String
  | .none => "NoneType"
  | .bool _ => "bool"
  | .int _ => "int"
  | .str _ => "str"
  | .list _ => "list"
  | .tuple _ => "tuple"
  | .dict _ => "dict"
theorem tyT {l : Addr} {xs : List V} (h : SqT K H l xs) : TyX K H (.ref l) (.type "tuple") := by
  rcases h with (h | ⟨o, h⟩) | ⟨o, its, n, h, hc, _⟩
  · exact .base (.tup h)
  · exact .fTuple h
  · exact .kTuple h hc
theorem Dq.ty {v : V} {d : PyData} (h : Dq K N H v d) : TyX K H v (.type (tyD d)) := by
  cases h with
  | non => exact .base .non
  | bl b => exact .base (.bl b)
  | int i => exact .base (.int i)
  | str x => exact .base (.str x)
  | lst _ _ e _ => exact .base (.lst e)
  | tup e _ => exact tyT e
  | dct0 e => exact .base (.dK e)
  | dct1 e => exact .base (.dK e)
end
section
variable {X : Cx} {pins : List (Addr × Obj)} {σ : L2.St} {H : Hp} {s : Shared} {N : Addr → Prop}
mutual
theorem Dq.reads (I : Inv X pins σ H s) : ∀ (d : PyData) (v : V) (u : Value), Dq X.K N H v d → RelV v u → ∃ as, Reads s.heap u d as ∧ sysModules ∉ as
  | .none, _, _, h, r => by
    cases h; cases r; exact ⟨_, Reads.none, by simp⟩
  | .bool b, _, _, h, r => by
    cases h; cases r; exact ⟨_, Reads.bool b, by simp⟩
  | .int i, _, _, h, r => by
    cases h; obtain ⟨t, rfl⟩ := r; exact ⟨_, Reads.int i t, by simp⟩
  | .str x, _, _, h, r => by
    cases h; obtain ⟨t, rfl⟩ := r; exact ⟨_, Reads.str x t, by simp⟩
  | .list ds, _, _, h, r => by
    cases h with
    | lst h1 _ hs ha =>
      cases r
      obtain ⟨_, its, n, rv, ho⟩ := I.hok _ _ hs
      obtain ⟨as, hr, hn⟩ := Dq.readsAll I ds _ its ha rv
      exact ⟨_, Reads.list ho rfl rfl hr, by simp [hn, Ne.symm h1]⟩
  | .tuple ds, _, _, h, r => by
    cases h with
    | tup hs ha =>
      cases r
      obtain ⟨its, rv, ⟨o, ho, hc, n, hd⟩, _⟩ := I.tuple hs
      obtain ⟨as, hr, hn⟩ := Dq.readsAll I ds _ its ha rv
      exact ⟨_, Reads.tuple ho hc hd hr, hn⟩
  | .dict _, _, _, h, r => by
    cases h with
    | dct0 e =>
      cases r
      obtain ⟨_, ns, vs, kv, o, es, ep, ho, hc, hd, _, hp, _⟩ := I.hok _ _ e
      cases kv
      have he : es.toList = [] := by cases hes : es.toList with
        | nil => rfl
        | cons x y => rw [hes] at hp; cases hp
      have ns' := of_decide_eq_false (show decide (_ = sysModules) = false by simpa using ns)
      refine ⟨_, Reads.dict (kvs := []) ho hc.1 hd (by rw [he]; exact .nil) (by rw [he]; exact .nil), ?_⟩
      simp [Ne.symm ns']
    | @dct1 l x i e =>
      cases r
      obtain ⟨_, ns, vs, kv, o, es, ep, ho, hc, hd, _, hp, _⟩ := I.hok _ _ e
      cases kv with
      | @cons p q l1 l2 kq kr =>
        cases kr
        obtain ⟨h1, t, h2⟩ := kq
        obtain ⟨en, he, hk, hv⟩ : ∃ en, es.toList = [en] ∧ keyIs q.1 en.key = true ∧ en.val = q.2 := by
          cases hes : es.toList with
          | nil => rw [hes] at hp; cases hp
          | cons x y =>
            rw [hes] at hp
            cases hp with
            | cons p1 p2 p3 => cases p3; exact ⟨x, rfl, p1, p2⟩
        have h1' : (Sum.inr x : Key) = q.1 := h1
        rw [← h1'] at hk
        obtain ⟨t', hk'⟩ := Value.isStrOf_shape (show Value.isStrOf x en.key = true from hk)
        have ns' := of_decide_eq_false (show decide (_ = sysModules) = false by simpa using ns)
        refine ⟨_, Reads.dict (kvs := [(.str x, .int i)]) ho hc.1 hd (as := [] ++ []) (bs := [] ++ []) ?_ ?_, ?_⟩
        · rw [he]; show ReadsAll _ [en.key] _ _; rw [hk']; exact .cons (.str x t') .nil
        · rw [he]; show ReadsAll _ [en.val] _ _; rw [hv, h2]; exact .cons (.int i t) .nil
        · simp [Ne.symm ns']
theorem Dq.readsAll (I : Inv X pins σ H s) : ∀ (ds : List PyData) (vs : List V) (us : List Value), DqAll X.K N H vs ds → Vals vs us → ∃ as, ReadsAll s.heap us ds as ∧ sysModules ∉ as
  | [], _, _, h, r => by
    cases h; cases r; exact ⟨_, ReadsAll.nil, by simp⟩
  | d :: ds, _, _, h, r => by
    cases h with
    | cons h1 h2 =>
      cases r with
      | cons r1 r2 =>
        obtain ⟨as, q1, n1⟩ := Dq.reads I d _ _ h1 r1
        obtain ⟨bs, q2, n2⟩ := Dq.readsAll I ds _ _ h2 r2
        exact ⟨_, ReadsAll.cons q1 q2, by simp [n1, n2]⟩
end
end
/-! ### how deep, how long -/
structure Shq (dep n : Nat) (d : PyData) : Prop where
  sh : d.showable = true
  dp : d.depth ≤ dep
  ln : d.shown.length ≤ n
theorem Shq.mono {dep dep' n n' : Nat} {d : PyData} (h : Shq dep n d) (h1 : dep ≤ dep') (h2 : n ≤ n') : Shq dep' n' d := ⟨h.sh, Nat.le_trans h.dp h1, Nat.le_trans h.ln h2⟩
theorem Shw.q {dep n : Nat} {d : PyData} (h : Shw dep n d) : Shq dep n d := ⟨h.sh, h.dp, h.ln⟩
theorem shqAll {dep n : Nat} : ∀ {ds : List PyData}, (∀ d ∈ ds, Shq dep n d) → PyData.showableAll ds = true ∧ PyData.depthAll ds ≤ dep
  | [], _ => ⟨by simp only [PyData.showableAll], by simp [PyData.depthAll]⟩
  | d :: r, h => by
    obtain ⟨h1, h3⟩ := shqAll (ds := r) fun x hx => h x (List.mem_cons_of_mem _ hx)
    have g := h d List.mem_cons_self
    refine ⟨by simp only [PyData.showableAll, g.sh, h1, Bool.and_self], ?_⟩
    simp only [PyData.depthAll]
    exact Nat.max_le.mpr ⟨g.dp, h3⟩
theorem Shq.tuple {dep n m : Nat} {ds : List PyData} (h : ∀ d ∈ ds, Shq dep n d) (hm : ds.length ≤ m) : Shq (dep + 1) (m * (n + 2) + 3) (.tuple ds) := by
  obtain ⟨h1, h3⟩ := shqAll h
  refine ⟨by simp only [PyData.showable, h1], by simp only [PyData.depth]; omega, ?_⟩
  simp only [PyData.shown]
  rw [shownAll_map]
  have a1 := tupleText_len (ds.map PyData.shown)
  have a2 := piled_le fun d hd => (h d hd).ln
  have a3 : ds.length * (n + 2) ≤ m * (n + 2) := Nat.mul_le_mul_right _ hm
  omega
theorem Shq.list {dep n m : Nat} {ds : List PyData} (h : ∀ d ∈ ds, Shq dep n d) (hm : ds.length ≤ m) : Shq (dep + 1) (m * (n + 2) + 3) (.list ds) := by
  obtain ⟨h1, h3⟩ := shqAll h
  refine ⟨by simp only [PyData.showable, h1], by simp only [PyData.depth]; omega, ?_⟩
  simp only [PyData.shown]
  rw [shownAll_map]
  have a1 := listText_len (ds.map PyData.shown)
  have a2 := piled_le fun d hd => (h d hd).ln
  have a3 : ds.length * (n + 2) ≤ m * (n + 2) := Nat.mul_le_mul_right _ hm
  omega
/-! ### repr of such data -/
def rReprQ (K : PySem.W.Frag) : List V → Hp → VK → Prop := fun xs H Q => ∃ (N : Addr → Prop) (v : V) (d : PyData), xs = [v] ∧ Dq K N H v d ∧ Shq 60 sizeLine d ∧ Q (.str d.shown) H
theorem call_reprQ {X : Cx} {k : Nat} (gd : X.A.guards = some []) (hr : Room k X.A) : CallR X (.builtin "repr") (rReprQ X.K) := by
  intro pins s σ H xs us Q I rv h
  obtain ⟨N, v, d, rfl, hd, hs, q⟩ := h
  obtain ⟨u, rfl, rx⟩ := vals1 rv
  have isref : ∀ (l : Addr), v = .ref l → wpAny (model X.prog X.w) X.A (call (.builtin "repr") [u]) (EP X pins σ Q) X.xe s := fun l e => by
    subst e
    obtain ⟨as, r, hn⟩ := Dq.reads I d _ _ hd rx
    obtain rfl : u = .ref l := rx
    exact repr_of_reads' r hs.sh (fun _ => hn) gd (by have := hr.un; have := hs.dp; omega) (fun _ _ e => e) (fun h' t tk hk => ⟨.str d.shown, H, I.kept hk, ⟨t, rfl⟩, q⟩) hs.ln
  cases hd with
  | non => obtain rfl : u = .none := rx; exact PySem.P.repr_of_none ⟨.str "None", H, I.tok _, ⟨_, rfl⟩, by simpa only [PyData.shown] using q⟩
  | bl b => obtain rfl : u = .bool b := rx; exact PySem.P.repr_of_bool ⟨.str _, H, I.tok _, ⟨_, rfl⟩, by simpa only [PyData.shown] using q⟩
  | int i =>
    obtain ⟨t, rfl⟩ := rx
    have h1 : i.natAbs.log2 < 1920 := by simpa only [PyData.showable, decide_eq_true_eq] using hs.sh
    exact PySem.P.repr_of_int h1 ⟨.str _, H, I.tok _, ⟨_, rfl⟩, by simpa only [PyData.shown] using q⟩
  | str x =>
    obtain ⟨t, rfl⟩ := rx
    have h1 : (reprText x).length ≤ sizeLine := by simpa only [PyData.shown] using hs.ln
    exact PySem.P.repr_of_str ⟨.str _, H, I.tok _, ⟨_, rfl⟩, by simpa only [PyData.shown] using q⟩ h1
  | lst _ _ _ _ => exact isref _ rfl
  | tup _ _ => exact isref _ rfl
  | dct0 _ => exact isref _ rfl
  | dct1 _ => exact isref _ rfl
end Pr
/-! Rules for what the laws do with values of any kind. -/
namespace Pr
open PySem PySem.Spec PyProof.Rows L2
section
variable {X : Cx} {es : List Expr} {t : TA} {pos : Pos}
/-- a list that stands apart from the modules' table -/
def tLstG (t : TA) : TE := fun σ H Q => t σ H fun xs H1 => xs.length ≤ sizeLine ∧ ∀ p, H1 p = none → p ≠ sysModules → Q (.ref p) (upd H1 p (.lst xs))
theorem pe_lstG (h : PA X es t) : PE X (.List es pos) (tLstG t) := by
  refine ⟨fun pins s σ H Q I hq => wpAny_List_spliced (thn (h.run pos pins s σ H _ I hq) fun us s1 ⟨xs, H1, I1, r, z, q⟩ => ⟨by rw [← r.length]; exact z, ?_⟩)⟩
  refine ⟨.ref s1.heap.objs.size, upd H1 s1.heap.objs.size (.lst xs), I1.laid (t' := s1.toks) (fun b u e => Heap.get?_push_of_some _ e) (Nat.le_refl _) ⟨z, us, 0, r, Heap.get?_push_size _ rfl⟩, rfl,
    q _ (I1.hok.fresh (Nat.le_refl _)) (Nat.ne_of_gt I1.big)⟩
def rListG (K : PySem.W.Frag) : List V → Hp → VK → Prop := fun xs H Q => ∃ p ys, xs = [.ref p] ∧ SqT K H p ys ∧ ∀ l, H l = none → l ≠ sysModules → Q (.ref l) (upd H l (.lst ys))
theorem call_listG : CallR X (.type "list") (rListG X.K) := by
  intro pins s σ H xs us Q I r h
  obtain ⟨p, ys, rfl, hq, q⟩ := h
  obtain ⟨u, rfl, rx⟩ := vals1 r
  cases rx
  obtain ⟨its, r', ⟨o, ho, hc, n, hd⟩, hz⟩ := I.tuple hq
  have hlen := r'.length
  refine call_list_seq p (.inr rfl) ho hc hd (fun h' c' kp e => ?_) (by simp only [List.size_toArray] <;> omega)
  exact ⟨.ref s.heap.objs.size, _, I.laid (t' := s.toks) kp (Nat.le_refl _) (show ObjOk X.prog X.w _ h' _ (.lst ys) from ⟨hz, its, c', r', e⟩), rfl, q _ (I.hok.fresh (Nat.le_refl _)) (Nat.ne_of_gt I.big)⟩
/-- sorted(tuple of ints) -/
def rSortT (K : PySem.W.Frag) : List V → Hp → VK → Prop := fun vs H Q => ∃ (a : Addr) (ns : List Int), vs = [V.ref a] ∧ SqT K H a (ns.map V.int) ∧ ns.length < 64 ∧
  ∀ (ns' : List Int) (p : Addr), ns'.Perm ns → ns'.Pairwise (· ≤ ·) → H p = none → Q (.ref p) (upd H p (.lst (ns'.map V.int)))
theorem cr_sortT : CallR X (.builtin "sorted") (rSortT X.K) := by
  intro pins s σ H vs us Q I r h
  obtain ⟨a, ns, rfl, hs, h64, q⟩ := h
  obtain ⟨its, rv, ⟨o, ho, hc, n, hd⟩, hz⟩ := I.tuple hs
  rw [Vals.ref1 r]
  have hi := rv.ints
  have hlen := hi.length
  refine Calls.call_function_entry kind_sorted plain_sorted entry_sorted (args_sorted1 _) ?_
  unfold Builtin.«sorted»
  refine wpAny_bind (m := checkCount "sorted" 1 1 _) (wpAny_pure ?_)
  refine wpAny_bind (wpAny_collect_seq a (.inr rfl) ho hc hd (fun h' kp => ?_) (by rw [List.size_toArray, hlen]; exact small64 h64))
  have e : its.toArray.toList = its := by simp
  rw [e]
  refine wpAny_bind (wpAny_newList ?_)
  have I1 : Inv X pins σ H { s with heap := h' } := I.kept (t' := s.toks) kp
  have hoL : (h'.push (seqObj "list" its.toArray 0)).get? h'.objs.size = some (seqObj "list" its.toArray 0) := Heap.get?_push_size _ rfl
  refine wpAny_bind (wpAny_holding (wpAny_call_entry slot_list_sort ⟨_, hoL, rfl⟩ entry_list_sort (list_sort_tree hoL hi (by rw [hlen]; exact h64) fun out ns' a1 a2 a3 => ⟨_, rfl, ?_⟩) (args_list_sort _)))
  obtain ⟨ep, he'⟩ := PyProof.Rows.sortedHeap_at (vs := its) (out := out) hoL
  have hl2 : (ns'.map V.int).length ≤ sizeLine := by rw [List.length_map, a2.length_eq]; exact small64 h64
  refine wpAny_pure ⟨_, rfl, .ref h'.objs.size, upd H h'.objs.size (.lst (ns'.map V.int)), I1.laid (t' := s.toks) (fun b ob q => ?_) (Nat.le_refl _) ⟨hl2, out.toList, ep, vals_of_ints a1, he'⟩, rfl, q ns' _ a2 a3 (I1.hok.fresh (Nat.le_refl _))⟩
  have hb : b < h'.objs.size := Heap.lt_size q
  rw [PyProof.Rows.sortedHeap_old (Nat.ne_of_lt hb) (by rw [Heap.size_push]; exact Nat.lt_succ_of_lt hb)]
  exact Heap.get?_push_of_some _ q
/-- set(tuple of ints) -/
def rSetI (K : PySem.W.Frag) (w : World) : List V → Hp → VK → Prop := fun vs H Q => ∃ (a : Addr) (ns : List Int), vs = [V.ref a] ∧ SqT K H a (ns.map V.int) ∧ ns.length ≤ 200 ∧
  ∀ (l : Addr) (n : Nat), H l = none → n ≤ ns.length → Q (.ref l) (upd H l (SetO w l (fun j => decide (j ∈ ns)) n))
theorem cr_setI (hc : X.calm = true) : CallR X (.type "set") (rSetI X.K X.w) := by
  intro pins s σ H vs us Q I r h
  obtain ⟨a, ns, rfl, hs, hn, q⟩ := h
  obtain ⟨its, rv, pt, hz⟩ := I.tuple hs
  rw [Vals.ref1 r]
  have hi := rv.ints
  refine call_set_tupI ns (I.ok.hd hc) pt (by simpa using hi) (Nat.lt_of_le_of_lt (Nat.add_le_add_right hn 1) (by decide)) fun h' tk n R hn' kp => ?_
  exact ⟨.ref s.heap.objs.size, _, I.laid (t' := tk) kp (Nat.le_refl _) (setO_new R), rfl, q _ n (I.hok.fresh (Nat.le_refl _)) hn'⟩
end
/-! ### t[::-1] -/
section
variable {prog : Program} {w : World} {A : Around} {E : Value → Shared → Prop} {s : Shared}
theorem fm_congr {f g : Nat → Option Value} : ∀ {l : List Nat}, (∀ x ∈ l, f x = g x) → l.filterMap f = l.filterMap g
  | [], _ => rfl
  | x :: r, h => by
    rw [List.filterMap_cons, List.filterMap_cons, h x List.mem_cons_self, fm_congr fun y hy => h y (List.mem_cons_of_mem _ hy)]
theorem pick_back (l : List Value) : (List.range l.length).filterMap (fun (k : Nat) => l[(((l.length : Int) - 1) + (k : Int) * (-1)).toNat]?) = l.reverse := by
  have h1 : (List.range l.length).filterMap (fun (k : Nat) => l[(((l.length : Int) - 1) + (k : Int) * (-1)).toNat]?) = (List.range l.length).filterMap (fun (k : Nat) => some ((l[l.length - 1 - k]?).getD .none)) := by
    refine fm_congr fun k hk => ?_
    have hk' := List.mem_range.mp hk
    rw [show (((l.length : Int) - 1) + (k : Int) * (-1)).toNat = l.length - 1 - k by omega, List.getElem?_eq_getElem (by omega)]; rfl
  rw [h1, show (fun (k : Nat) => some ((l[l.length - 1 - k]?).getD Value.none)) = some ∘ (fun k : Nat => (l[l.length - 1 - k]?).getD Value.none) from rfl, List.filterMap_eq_map]
  refine List.ext_getElem? fun i => ?_
  by_cases hi : i < l.length
  · rw [List.getElem?_map, List.getElem?_range hi, List.getElem?_reverse hi, List.getElem?_eq_getElem (by omega)]
    show some ((l[l.length - 1 - i]?).getD Value.none) = _
    rw [List.getElem?_eq_getElem (by omega)]; rfl
  · rw [List.getElem?_eq_none (by rw [List.length_map, List.length_range]; omega), List.getElem?_eq_none (by rw [List.length_reverse]; omega)]
theorem getItem_tuple_back {t sl : Addr} {its : List Value} {Q : Value → Shared → Prop} {vs : Value} (ht : IsTup s.heap t its.toArray) (hs : s.heap.IsSliceOf sl .none .none vs) (ps : IsPart vs (some (-1)))
    (h : Q (.ref s.heap.objs.size) { s with heap := s.heap.push { cls := .type "tuple", data := .seq its.reverse.toArray } }) (hsz : its.length ≤ sizeLine) : wpAny (model prog w) A (getItem (.ref t) (.ref sl)) Q E s := by
  obtain ⟨os, hos, hcs, hds⟩ := id hs
  have hTs : s.TypeIs (.ref sl) "slice" := ⟨os, hos, hcs⟩
  unfold getItem
  try with_reducible refine wpAny_holding ?_
  first | refine wpAny_bind (wpAny_pure ?_) | skip
  refine wpAny_bind (wpAny_sequenceKey ht.typeIs (by decide) ?_)
  refine wpAny_bind (wpAny_callSpecial?_slot (name := Str.ofString "__getitem__") ht.typeIs PyProof.Rows.slot_tuple_getitem (wpAny_call_entry PyProof.Rows.slot_tuple_getitem ht.typeIs entry_tuple_getitem ?_ (args_tuple_getitem _ _)))
  show wpAny _ _ (Builtin.Tuple.tupleItemsOf (.ref t) >>= _) _ _ s
  refine wpAny_bind (tupleItemsOf_ ht (wpAny_bind (wpAny_typeOf hTs ?_)))
  rw [if_pos (by decide)]
  have hp : Builtin.Slice.slicePlaces ((its.length : Int) - 1) (-1) (-1) = its.length := by
    unfold Builtin.Slice.slicePlaces
    rw [if_neg (by omega)]
    split
    · simp only [Int.neg_neg, Int.ediv_one]; omega
    · omega
  refine wpAny_bind ?_
  unfold Builtin.Slice.sliceApplied Builtin.Slice.sliceFields
  refine wpAny_bind (wpAny_bind (wpAny_field hos hds (x := .none) rfl (wpAny_bind (wpAny_field hos hds (x := .none) rfl (wpAny_bind (wpAny_field hos hds (x := vs) rfl (wpAny_pure ?_)))))))
  refine wpAny_bind (HT.slicePart_ ps ?_)
  show wpAny _ _ (if ((-1 : Int) == 0) = true then _ else _) _ _ s
  rw [if_neg (by decide)]
  refine wpAny_bind (slicePart_none (wpAny_bind (slicePart_none (wpAny_bind (wpAny_pure ?_)))))
  show wpAny _ _ (pure (((its.toArray.size : Nat) : Int) - 1, (-1 : Int), Builtin.Slice.slicePlaces (((its.toArray.size : Nat) : Int) - 1) (-1) (-1))) _ _ s
  rw [List.size_toArray, hp]
  refine wpAny_pure ?_
  show wpAny _ _ (if ((((its.length : Nat) : Int) - 1 == 0 && (-1 : Int) == 1 && its.length == its.toArray.size) = true) then _ else _) _ _ s
  rw [if_neg (by rw [show ((-1 : Int) == 1) = false by decide, Bool.and_false, Bool.false_and]; exact Bool.false_ne_true)]
  have ep : ((List.range its.length).filterMap fun (k : Nat) => its.toArray[((its.length : Int) - 1 + (k : Int) * (-1)).toNat]?).toArray = its.reverse.toArray := by
    have := pick_back its
    simp only [List.getElem?_toArray]
    rw [this]
  rw [ep]
  have htake : sizeOk (.seq its.reverse.toArray) := by
    show its.reverse.toArray.size ≤ sizeLine
    rw [List.size_toArray, List.length_reverse]; exact hsz
  first
    | exact wpAny_bind (m := Builtin.Tuple.tupleExact _) (wpAny_newObj_type (wpAny_pure ⟨_, rfl, wpAny_pure h⟩) htake)
    | exact wpAny_bind (m := Builtin.Tuple.tupleExact _) (wpAny_newObj_type (wpAny_bind (wpAny_pure (wpAny_pure ⟨_, rfl, wpAny_pure h⟩))) htake)
    | exact wpAny_bind (wpAny_bind (m := Builtin.Tuple.tupleExact _) (wpAny_newObj_type (wpAny_pure (wpAny_pure ⟨_, rfl, wpAny_pure h⟩)) htake))
    | exact wpAny_bind (wpAny_bind (m := Builtin.Tuple.tupleExact _) (wpAny_newObj_type (wpAny_pure ⟨_, rfl, wpAny_pure h⟩) htake))
end
section
variable {X : Cx}
def tRevT (K : PySem.W.Frag) (te : TE) : TE := fun σ H Q => te σ H fun x H1 => ∃ a xs, x = .ref a ∧ SqT K H1 a xs ∧ ∀ p, H1 p = none → Q (.ref p) (upd H1 p (.tup xs.reverse))
theorem pe_revT {e : Expr} {te : TE} {k : Nat} {p1 p2 p3 pos : Pos} (he : PE X e te) : PE X (.Subscript e (.Slice none none (some (.UnaryOp .USub (.Constant (.int 1) k p1) p2)) p3) pos) (tRevT X.K te) := by
  refine ⟨fun pins s σ H Q I h => Subscript_ (thn (he.run pins s σ H _ I h) fun v s1 ⟨x, H1, I1, r1, a, xs, ex, hx, q⟩ => ?_)⟩
  subst ex
  cases r1
  have hst : PO X (some (.UnaryOp .USub (.Constant (.int 1) k p1) p2)) (tPart (tUn (rU fun i => .int (-i)) (tC (.int 1)))) := po_some (pe_un un_neg pe_int)
  refine wpAny_Slice (thn (po_none.run pins s1 σ H1 (fun o H2 => o = none ∧ H2 = H1) I1 ⟨rfl, rfl⟩) fun vl s2 ⟨l, H2, I2, pl, el, e2⟩ => ?_)
  subst el e2
  refine thn (po_none.run pins s2 σ H2 (fun o H3 => o = none ∧ H3 = H2) I2 ⟨rfl, rfl⟩) fun vu s3 ⟨u, H3, I3, pu, eu, e3⟩ => ?_
  subst eu e3
  refine thn (hst.run pins s3 σ H3 (fun o H4 => o = some (-1) ∧ H4 = H3) I3 ⟨1, rfl, -1, rfl, rfl, rfl⟩) fun vs s4 ⟨o, H4, I4, ps, eo, e4⟩ => ?_
  subst eo e4
  cases pl
  cases pu
  have I5 : Inv X pins σ H4 { s4 with heap := s4.heap.push { cls := .type "slice", data := .fields #[.none, .none, vs] } } := I4.kept (t' := s4.toks) fun b ob q => Heap.get?_push_of_some _ q
  obtain ⟨its, r, ht, hz⟩ := I5.tuple hx
  have hlen := r.length
  show wpAny (model X.prog X.w) X.A (subscriptTail e (.Slice none none (some (.UnaryOp .USub (.Constant (.int 1) k p1) p2)) p3) (.ref a) (.ref s4.heap.objs.size)) (EP X pins σ Q) X.xe { s4 with heap := s4.heap.push { cls := .type "slice", data := .fields #[.none, .none, vs] } }
  refine tail_any (ops := [.ref a, .ref s4.heap.objs.size]) ht.typeIs (PyProof.Rows.slot_tuple_getitem.lookup) ?_ (by with_unfolding_all rfl)
  refine getItem_tuple_back ht (Heap.IsSliceOf.new _ .none .none vs) ps ?_ (by omega)
  refine ⟨.ref _, _, I5.laid (t' := s4.toks) (o := .tup xs.reverse) (fun b ob q => Heap.get?_push_of_some _ q) (Nat.le_refl _) ?_, rfl, q _ (I5.hok.fresh (Nat.le_refl _))⟩
  exact ⟨by rw [List.length_reverse]; exact hz, _, r.reverse, IsTup.new _ _⟩
end
end Pr
/-! A panel that is read, however its tuples stand. -/
namespace Pr
open PySem PySem.Spec PyProof.Rows L2
def PanT (K : PySem.W.Frag) (H : Hp) (p : Addr) (pan : List (List Int)) : Prop := ∃ qs : List Addr, SqT K H p (qs.map V.ref) ∧ Paired (fun q l => SqT K H q (l.map V.int)) qs pan
section
variable {K : PySem.W.Frag} {H H' : Hp} {p : Addr} {pan : List (List Int)}
theorem PanT.same (e : Same H H') (h : PanT K H p pan) : PanT K H' p pan :=
  let ⟨qs, h1, h2⟩ := h; ⟨qs, same_sqT e h1, h2.mono fun _ _ x => same_sqT e x⟩
theorem PanAt.t (h : PanAt H p pan) : PanT K H p pan :=
  let ⟨qs, h1, h2⟩ := h; ⟨qs, h1.sq, h2.mono fun _ _ x => x.sq⟩
theorem panT_at (h : PanT K H p pan) {b : Int} (h0 : 0 ≤ b) (h1 : b < (pan.length : Int)) :
    ∃ (qs : List Addr) (q : Addr), SqT K H p (qs.map V.ref) ∧ atI (qs.map V.ref) b = some (.ref q) ∧ SqT K H q ((pan.getD b.toNat []).map V.int) ∧ qs.length = pan.length := by
  obtain ⟨qs, hq, hqs⟩ := h
  obtain ⟨n, rfl⟩ : ∃ n : Nat, b = (n : Int) := ⟨b.toNat, (Int.toNat_of_nonneg h0).symm⟩
  have hn : n < pan.length := by omega
  obtain ⟨q', g1, g2⟩ := paired_get hqs n pan[n] (List.getElem?_eq_getElem hn)
  refine ⟨qs, q', hq, atI_nat (by rw [List.getElem?_map, g1]; rfl), ?_, hqs.length⟩
  rw [Int.toNat_natCast, List.getD_eq_getElem?_getD, List.getElem?_eq_getElem hn]
  exact g2
theorem PanT.len (h : PanT K H p pan) : ∃ xs : List V, SqT K H p xs ∧ xs.length = pan.length :=
  let ⟨qs, h1, h2⟩ := h; ⟨_, h1, by rw [List.length_map, h2.length]⟩
theorem dpAll_panT : ∀ {qs : List Addr} {pan : List (List Int)}, Paired (fun q l => SqT K H q (l.map V.int)) qs pan → DpAll K H (qs.map V.ref) (pan.map dInts)
  | _, _, .nil => .nil
  | _, _, .cons r t => .cons (dp_ints r) (dpAll_panT t)
theorem PanT.dp (h : PanT K H p pan) : Dp K H (.ref p) (dPan pan) := let ⟨_, h1, h2⟩ := h; .tup h1 (dpAll_panT h2)
end
theorem Good.rng' {pan : List (List Int)} (g : Good pan) {b x : Int} (hx : x ∈ pan.getD b.toNat []) : 0 ≤ x ∧ x < (pan.length : Int) := by
  by_cases h : b.toNat < pan.length
  · rw [List.getD_eq_getElem?_getD, List.getElem?_eq_getElem h] at hx
    exact g.rng _ (List.getElem_mem h) x hx
  · rw [List.getD_eq_getElem?_getD, List.getElem?_eq_none (by omega)] at hx
    cases hx
/-- one button -/
theorem good_one : Good [[]] := by
  refine ⟨by decide, by decide, fun l h => ?_, fun l h x hx => ?_, fun i l h hx => ?_⟩
  · rw [List.mem_singleton.mp h]; exact List.Pairwise.nil
  · rw [List.mem_singleton.mp h] at hx; cases hx
  · have : l = [] := by
      match i, h with
      | 0, h => exact (Option.some.inj h).symm
    rw [this] at hx; cases hx
/-! ### what a row meets -/
def metB (pan : List (List Int)) (row : List Int) (c : Int) : Prop := c ∈ row ∨ ∃ b ∈ row, c ∈ pan.getD b.toNat []
theorem words_same {pan : List (List Int)} {c : Int} : ∀ (row : List Int) (w : Str), row.foldl (wordM pan c) w = wSame ↔ w = wSame ∧ ¬ metB pan row c
  | [], w => by
    refine ⟨fun h => ⟨h, fun z => z.elim (fun q => by cases q) fun ⟨_, q, _⟩ => by cases q⟩, fun h => h.1⟩
  | b :: r, w => by
    rw [List.foldl_cons, words_same r]
    unfold wordM metB
    by_cases h1 : b = c
    · rw [if_pos h1]
      refine ⟨fun h => absurd h.1.symm same_ne_on, fun h => absurd ?_ h.2⟩
      exact .inl (by rw [h1]; exact List.mem_cons_self)
    · rw [if_neg h1]
      by_cases h2 : c ∈ pan.getD b.toNat []
      · rw [if_pos h2]
        refine ⟨fun h => absurd h.1.symm same_ne_off, fun h => absurd ?_ h.2⟩
        exact .inr ⟨b, List.mem_cons_self, h2⟩
      · rw [if_neg h2]
        refine and_congr_right fun _ => not_congr ⟨fun h => ?_, fun h => ?_⟩
        · rcases h with h | ⟨d, h3, h4⟩
          · exact .inl (List.mem_cons_of_mem _ h)
          · exact .inr ⟨d, List.mem_cons_of_mem _ h3, h4⟩
        · rcases h with h | ⟨d, h3, h4⟩
          · exact .inl ((List.mem_cons.mp h).resolve_left (Ne.symm h1))
          · rcases List.mem_cons.mp h3 with e | e
            · subst e; exact absurd h4 h2
            · exact .inr ⟨d, e, h4⟩
theorem same_mem_eff {pan : List (List Int)} {row : List Int} : wSame ∈ effM pan row ↔ ∃ c : Nat, c < pan.length ∧ ¬ metB pan row (c : Int) := by
  unfold effM
  rw [List.mem_map]
  constructor
  · rintro ⟨c, hc, e⟩
    exact ⟨c, List.mem_range.mp hc, ((words_same row wSame).mp e).2⟩
  · rintro ⟨c, hc, h⟩
    exact ⟨c, List.mem_range.mpr hc, (words_same row wSame).mpr ⟨rfl, h⟩⟩
theorem asc_full {n : Nat} {ms : List Int} (h : Asc n ms) : ms.length = n ↔ ∀ c : Nat, c < n → (c : Int) ∈ ms := by
  have e := h.eq
  constructor
  · intro hl c hc
    have h1 : ((intL n).filter (fun x => decide (x ∈ ms))).length = (intL n).length := by rw [e, hl, intL_len]
    have := List.length_filter_eq_length_iff.mp h1 (c : Int) (mem_intL.mpr ⟨by omega, by omega⟩)
    exact of_decide_eq_true this
  · intro hc
    rw [← e, List.length_filter_eq_length_iff.mpr, intL_len]
    intro x hx
    have := mem_intL.mp hx
    have h2 := hc x.toNat (by omega)
    rw [Int.toNat_of_nonneg this.1] at h2
    exact decide_eq_true h2
theorem inV_strs {b : Str} (l : List Str) : inV (.str b) (l.map V.str) = decide (b ∈ l) := by
  unfold inV
  rw [List.any_map, Bool.eq_iff_iff, List.any_eq_true, decide_eq_true_eq]
  constructor
  · rintro ⟨x, hx, e⟩
    have e' : x = b := by simpa [eqV] using e
    rw [← e']; exact hx
  · intro h
    exact ⟨b, h, by simp [eqV]⟩
end Pr
/-! set(list of ints), and how many there are in it. -/
namespace Pr
open PySem PySem.Spec PyProof.Rows L2
section
variable {P : Program} {w : World} {A : Around} {E : Value → Shared → Prop} {s : Shared}
/-- a set just made -/
def set0 (w : World) : Obj := { cls := .type "set", dict := none, data := .set #[] 0 (.fresh 0 0 (!w.params.followText "set-order")) }
/-- a type's call by the codes of its two steps -/
theorem type_by {T nw ini : String} {xs : List Value} {Q Q1 : Value → Shared → Prop} (tc : TypeCalled T nw ini) (ok : checkTypeCall T ⟨xs, []⟩ = pure ())
    (first : codeAny (model P w) A.in1 (.call (.builtin nw) ⟨.type T :: xs, []⟩) (wants Q1 E) s)
    (second : ∀ v t, Q1 v t → t.TypeIs v T ∧ codeAny (model P w) A.in1 (.call (.builtin ini) ⟨v :: xs, []⟩) (wants (fun u t' => u = .none ∧ Q v t') E) t) :
    wpAny (model P w) A (call (.type T) xs) Q E s := by
  have f1 := tc.made; have f2 := tc.sub; have f3 := tc.notType; have f4 := tc.canCreate
  obtain ⟨c0, cs, f5⟩ := tc.mro
  apply wpAny_call; apply codeAny_of_tree
  change wpAny _ _ (callAny (Value.type T) _) _ _ _
  apply wpAny_pure; refine ⟨Code.quiet_builtin _ (by decide +kernel), ?_⟩
  apply codeAny_builtin F.entry_type_call; rw [Around.under_plain (weight_type_call_type T xs []) rfl]
  repeat (any_goals (first | assumption | wp_step))
  apply codeAny_mono first; intro r t hr
  match r, hr with
  | .error e, hr => exact hr
  | .ok .next, hr => exact hr.elim
  | .ok .brk, hr => exact hr.elim
  | .ok .cont, hr => exact hr.elim
  | .ok (.ret v), hr =>
    obtain ⟨hT, hc⟩ := second v t hr
    have f6 := tc.init.lookup; have f7 := tc.init.bind v
    repeat (any_goals (first | assumption | wp_step))
    apply codeAny_mono hc; intro r2 t2 hr2
    match r2, hr2 with
    | .error e, hr2 => exact hr2
    | .ok .next, hr2 => exact hr2.elim
    | .ok .brk, hr2 => exact hr2.elim
    | .ok .cont, hr2 => exact hr2.elim
    | .ok (.ret u), hr2 =>
      obtain ⟨rfl, hq⟩ := hr2
      repeat (any_goals (first | assumption | wp_step))
theorem call_setL {l : Addr} {its : Array Value} (ns : List Int) {Q : Value → Shared → Prop} (hh : A.handled = none) (hl : s.heap.IsList l its) (hi : IntsAre its.toList ns) (hb : ns.length + 1 < scanBound)
    (h : ∀ (h' : Heap) (tk c : Nat), SetR w h' s.heap.objs.size (fun j => decide (j ∈ ns)) c → (∀ b o, s.heap.get? b = some o → h'.get? b = some o) → Q (.ref s.heap.objs.size) { s with heap := h', toks := tk }) :
    wpAny (model P w) A (call (.type "set") [.ref l]) Q E s := by
  have hn : its.size = ns.length := by simpa using hi.length
  refine type_by F.called_set (F.typeCall_set_1 (.ref l)) (Q1 := fun v t => v = .ref s.heap.objs.size ∧ t = { s with heap := s.heap.push (set0 w) }) (code_set_led1 (.ref l) ⟨rfl, rfl⟩) ?_
  rintro obj t ⟨rfl, rfl⟩
  have hS : (s.heap.push (set0 w)).get? s.heap.objs.size = some (set0 w) := Heap.get?_push_size _ rfl
  refine ⟨⟨_, hS, rfl⟩, codeAny_call_builtin F.called_set.init.plain F.entry_set_init (check_set_init_1 ⟨_, hS, rfl⟩ ?_)⟩
  obtain ⟨⟨oc, od, odt, osl⟩, hol, hc, n, hd⟩ := id hl
  simp only at hc hd
  subst hc hd
  have lS : l < s.heap.objs.size := Heap.lt_size hol
  have hL : (s.heap.push (set0 w)).get? l = some { cls := .type "list", dict := od, data := .seq its n, slots := osl } := Heap.get?_push_of_some _ hol
  have hLl : (s.heap.push (set0 w)).IsList l its := ⟨_, hL, rfl, n, rfl⟩
  have k1 := F.sub_list_set
  have k2 := F.sub_list_frozenset
  have k3 : (Value.type "list" == Value.type "dict") = false := by decide
  have hz : (s.heap.push (set0 w)).objs.size = s.heap.objs.size + 1 := Heap.size_push ..
  have hP : s.heap.push (set0 w) = s.heap.push { cls := .type "set", dict := none, data := .set #[] 0 (.fresh 0 0 (!w.params.followText "set-order")) } := rfl
  generalize hG : s.heap.push (set0 w) = G at hS hL hLl hz ⊢
  unfold Builtin.«set.__init__» noKeywords Builtin.Frozenset.updateFrom
  generalize hI : pyIter = PI
  wp_walk
  subst hI
  refine wpAny_pyIter_list hLl (wpAny_bind (wpAny_runValue ?_))
  have at0 : (G.push { cls := .type "list_iterator", data := .fields #[.ref l, .int 0 0] }).get? s.heap.objs.size = some (set0 w) := Heap.get?_push_of_some _ hS
  have out1 : l ≠ G.objs.size := by rw [hz]; exact Nat.ne_of_lt (Nat.lt_succ_of_lt lS)
  have out2 : s.heap.objs.size ∉ [G.objs.size, l] := by
    rw [hz]
    intro q
    rcases List.mem_cons.mp q with e | e
    · exact Nat.ne_of_lt (Nat.lt_succ_self _) e
    · exact Nat.ne_of_lt lS (List.mem_singleton.mp e).symm
  have vals : ∀ (i : Nat) (v : Value), its[i]? = some v → ∃ k t, ns[i]? = some k ∧ v = .int k t := by
    intro i v hv
    have li : i < ns.length := hn ▸ (Array.getElem?_eq_some_iff.mp hv).1
    obtain ⟨t, e⟩ := hi.int_at i v (by rw [Array.getElem?_toList]; exact hv)
    rw [List.getD_eq_getElem?_getD, List.getElem?_eq_getElem li] at e
    exact ⟨ns[i], t, List.getElem?_eq_getElem li, e⟩
  have hh' : A.in1.in1.in1.handled = none := by simp [hh]
  refine set_update_ints (Walks.list hh' G.objs.size l out1 its).toS s.heap.objs.size out2 ns hn hb vals its.size 0 _ (Nat.sub_zero _) (Nat.zero_le _) ⟨⟨_, Heap.get?_push_size _ rfl, rfl, rfl⟩, hLl.push _⟩ ⟨0, Nat.le_refl _, setR_new_at at0⟩ ?_
  intro t' c mv _ R
  obtain ⟨h2, g2, d2, tk2, os2⟩ := t'
  obtain rfl : g2 = s.gens := mv.gens
  obtain rfl : d2 = s.drawn := mv.drawn
  obtain rfl : os2 = s.os := mv.os
  refine wpAny_pure (wpAny_pure ⟨rfl, h h2 tk2 c R fun b o e => ?_⟩)
  have lb : b < s.heap.objs.size := Heap.lt_size e
  refine mv.heap b o (fun q => ?_) (Heap.get?_push_of_some _ (by rw [← hG]; exact Heap.get?_push_of_some _ e))
  rcases List.mem_cons.mp q with e | e
  · exact Nat.ne_of_lt lb e
  · exact Nat.ne_of_lt (Nat.lt_succ_of_lt lb) ((List.mem_singleton.mp e).trans hz)
end
theorem nodup_few : ∀ (m : Nat) (l : List Int), l.Nodup → (∀ x ∈ l, 0 ≤ x ∧ x < (m : Int)) → l.length ≤ m
  | 0, l, _, h => by
    cases l with
    | nil => exact Nat.le_refl _
    | cons x r => have := h x List.mem_cons_self; omega
  | m + 1, l, hn, h => by
    have ih := nodup_few m (l.erase (m : Int)) (hn.erase _) fun x hx => by
      have h1 := (hn.mem_erase_iff.mp hx)
      have h2 := h x h1.2
      have h3 := h1.1
      omega
    have hl := List.length_erase (a := (m : Int)) (l := l)
    split at hl <;> omega
section
variable {X : Cx}
/-- set(list of ints) -/
def rSetL' (K : PySem.W.Frag) (w : World) : List V → Hp → VK → Prop := fun vs H Q => ∃ (a : Addr) (ns : List Int), vs = [V.ref a] ∧ SqL K H a (ns.map V.int) ∧ ns.length ≤ 1000 ∧
  ∀ (l : Addr) (n : Nat) (ks : List Int), H l = none → ks.Nodup → (∀ k, k ∈ ks ↔ k ∈ ns) → ks.length = n → Q (.ref l) (upd H l (SetO w l (fun j => decide (j ∈ ns)) n))
theorem cr_setL (hc : X.calm = true) : CallR X (.type "set") (rSetL' X.K X.w) := by
  intro pins s σ H vs us Q I r h
  obtain ⟨a, ns, rfl, hs, hn, q⟩ := h
  obtain ⟨its, rv, pl, hz⟩ := I.list hs
  rw [Vals.ref1 r]
  have hi := rv.ints
  refine call_setL ns (I.ok.hd hc) pl.isList (by simpa using hi) (Nat.lt_of_le_of_lt (Nat.add_le_add_right hn 1) (by decide)) fun h' tk n R kp => ?_
  obtain ⟨o, es, ep, t, h1, h2, h3, h4, h5, h6, h7, h8, h9, h10⟩ := id R
  refine ⟨.ref s.heap.objs.size, _, I.laid (t' := tk) kp (Nat.le_refl _) (setO_new R), rfl, q _ n (es.toList.map keyOf) (I.hok.fresh (Nat.le_refl _)) h5 (fun k => ?_) (by rw [List.length_map, Array.length_toList]; exact h9)⟩
  rw [← h6 k, decide_eq_true_eq]
/-- sorted(set(list of ints)), the ints from 0 to 62 -/
def rSortSet (K : PySem.W.Frag) : List V → Hp → VK → Prop := fun vs H Q => ∃ (a : Addr) (ns : List Int) (m : Nat), vs = [V.ref a] ∧ SqL K H a (ns.map V.int) ∧ ns.length ≤ 1000 ∧ m < 64 ∧ (∀ x ∈ ns, 0 ≤ x ∧ x < (m : Int)) ∧
  ∀ (ms : List Int) (p : Addr) (H' : Hp), Same H H' → H' p = some (.lst (ms.map V.int)) → ms.Pairwise (· < ·) → (∀ k, k ∈ ms ↔ k ∈ ns) → H p = none → Q (.ref p) H'
/-- what set asks, where sorted stands around it -/
theorem sortSet_of {w : World} {K : PySem.W.Frag} {vs : List V} {H : Hp} {Q : VK} (h : rSortSet K vs H Q) : rSetL' K w vs H (fun x H1 => rSortedSet w [x] H1 Q) := by
  obtain ⟨a, ns, m, rfl, hs, hn, hm, hr, q⟩ := h
  refine ⟨a, ns, rfl, hs, hn, fun l n ks nl nd mem len => ⟨l, _, n, rfl, upd_same, ?_, fun ms p up mm _ np => ?_⟩⟩
  · rw [← len]
    exact Nat.lt_of_le_of_lt (nodup_few m ks nd fun x hx => hr x ((mem x).mp hx)) hm
  · have sl : Same H (upd H l (SetO w l (fun j => decide (j ∈ ns)) n)) := same_new nl
    exact q ms p _ (sl.trans (same_new np)) upd_same up (fun k => by rw [mm k, decide_eq_true_eq]) (sl.free np)
end
end Pr
/-! Tuples that are known: a display, a repetition; how often a text is in one; sums and slices of tuples with one way on. -/
namespace Pr
open PySem PySem.Spec PyProof.Rows L2
section
variable {X : Cx}
def tTupF (t : TA) : TE := fun σ H Q => t σ H fun xs H1 => xs.length ≤ sizeLine ∧ ∀ p o, H1 p = none → o.dict = none → Q (.ref p) (upd H1 p (.frz o (.tup xs)))
theorem pe_tupF {es : List Expr} {t : TA} {x1 : Nat} {pos : Pos} (h : PA X es t) : PE X (.Tuple es x1 pos) (tTupF t) :=
  ⟨fun pins s σ H Q I hq => wpAny_Tuple_spliced (thn (h.run pos pins s σ H _ I hq) fun us s1 ⟨xs, H1, I1, r, z, q⟩ => ⟨r.length ▸ z,
    ⟨.ref s1.heap.objs.size, _, I1.laid (t' := s1.toks) (o := .frz { cls := .type "tuple", data := .seq us.toArray } (.tup xs)) (fun _ _ e => Heap.get?_push_of_some _ e) (Nat.le_refl _) ⟨Heap.get?_push_size _ rfl, z, us, r, IsTup.new _ _⟩, rfl,
      q _ _ (I1.hok.fresh (Nat.le_refl _)) rfl⟩⟩)⟩
/-- (v,) * k of a known tuple -/
def rRepF : R2 := fun x y H Q => ∃ (l : Addr) (v : V) (k : Nat), x = .ref l ∧ y = .int (k : Int) ∧ FT H l [v] ∧ 1 ≤ k ∧ k ≤ 1000 ∧ ∀ p H', Same H H' → FT H' p (List.replicate k v) → Q (.ref p) H'
theorem op_repF : OpR X (binaryOp .Mult) rRepF := by
  intro pins s σ H x y u1 u2 Q I rx ry h
  obtain ⟨l, v, k, rfl, rfl, hF, h1, h2, q⟩ := h
  by_cases e1 : k = 1
  · subst e1
    exact op_rep1 pins s σ H _ _ u1 u2 Q I rx ry ⟨l, v, rfl, hF.sq, .inl ⟨rfl, q l H (Same.refl _) hF⟩⟩
  · cases rx
    obtain ⟨tk, rfl⟩ := ry
    obtain ⟨its, r, ⟨⟨cls, dd, data, sl⟩, ho, hc, n, hd⟩, hs⟩ := I.tuple (hF.sq (K := X.K))
    simp only at hc hd
    subst hc hd
    obtain ⟨a, rfl, ra⟩ := vals1 r
    have big : (List.replicate k [a]).flatten.length ≤ sizeLine := by
      rw [rep_flat, List.length_replicate, sizeLine_eq]; omega
    have sz : (([a] : List Value).toArray.size : Int) * (k : Int) = (k : Int) := by
      show (1 : Int) * (k : Int) = _
      omega
    have big2 : (List.foldl (fun x1 x2 => x1 ++ x2) #[] (List.replicate ((k : Int)).toNat ([a] : List Value).toArray)).size ≤ sizeLine := by
      rw [size_rep, List.size_toArray, Int.toNat_natCast]; exact big
    refine wpAny_binaryOp_repeat_ref (T := "tuple") (U := "int") (by decide) ⟨_, ho, rfl⟩ (fun s' => typeIs_int s' (k : Int) tk) noFill_tuple_mul F.fills_int_mul F.slot_int_rmul repeat_tuple F.slot_int_index.lookup ?_
    refine call_meets F.slot_int_rmul (typeIs_int s (k : Int) tk) F.entry_int_rmul (F.args_int_rmul_2 _ _) (int_rmul_tuple (k : Int) tk l _ n dd sl) ⟨ho, rfl, ⟨_, ho, rfl⟩, ?_⟩
    refine call_meets F.slot_tuple_mul ⟨_, ho, rfl⟩ F.entry_tuple_mul (F.args_tuple_mul_2 _ _) (tuple_mulW l _ n dd sl (k : Int) tk ?_ ?_ ?_ ?_ ?_ big2) ⟨ho, ?_⟩
    · rw [decide_eq_false (by omega), decide_eq_false (by omega)]; rfl
    · show (false || ((k : Int) == 1)) = false
      rw [Bool.false_or]; exact beq_eq_false_iff_ne.mpr (by omega)
    · rw [decide_eq_false (by omega)]; rfl
    · rw [sz]; omega
    · unfold Builtin.Tuple.tupleTooMany
      rw [sz, sizeLine_eq]; exact decide_eq_false (by omega)
    · rw [size_rep, Int.toNat_natCast]
      have rr := r.rep k
      refine ⟨.ref s.heap.objs.size, _, I.laid (t' := s.toks) (o := .frz { cls := .type "tuple", data := .seq (List.replicate k [a]).flatten.toArray } (.tup (List.replicate k [v]).flatten)) (fun _ _ e => Heap.get?_push_of_some _ e) (Nat.le_refl _) ⟨Heap.get?_push_size _ rfl, ?_, _, rr, IsTup.new _ _⟩, rfl,
        q _ _ (same_new (I.hok.fresh (Nat.le_refl _))) ⟨_, by rw [upd_same, rep_flat (v := v)], rfl⟩⟩
      rw [rep_flat, List.length_replicate, sizeLine_eq]; omega
/-- t + u, one way on -/
def rCatS (K : PySem.W.Frag) : R2 := fun x y H Q => ∃ a b xs ys, x = .ref a ∧ y = .ref b ∧ SqT K H a xs ∧ SqT K H b ys ∧ xs.length + ys.length ≤ sizeLine ∧ ∀ p H', Same H H' → SqT K H' p (xs ++ ys) → Q (.ref p) H'
theorem op_catS : OpR X (binaryOp .Add) (rCatS X.K) := by
  intro pins s σ H x y u1 u2 Q I rx ry h
  obtain ⟨a, b, xs, ys, rfl, rfl, ha, hb, hz, q⟩ := h
  refine op_catA pins s σ H _ _ u1 u2 Q I rx ry ⟨a, b, xs, ys, rfl, rfl, ha, hb, hz, fun e => q b H (Same.refl _) ?_, fun _ e => q a H (Same.refl _) ?_, fun _ _ p np => q p _ (same_new np) (.inl (.inl upd_same))⟩
  · rw [e]; exact hb
  · rw [e, List.append_nil]; exact ha
/-- t[lo:hi], one way on -/
def rSlS (K : PySem.W.Frag) : V → Option Int → Option Int → Hp → VK → Prop := fun x lo hi H Q => ∃ a xs, x = .ref a ∧ SqT K H a xs ∧ ∀ p H', Same H H' → SqT K H' p (cutV xs lo hi) → Q (.ref p) H'
theorem sl_tupS : SlR X (rSlS X.K) := by
  intro pins s σ H x v vl vu lo hi sl Q I rx hs pl pu h
  obtain ⟨a, xs, rfl, ha, q⟩ := h
  refine sl_tupA pins s σ H _ v vl vu lo hi sl Q I rx hs pl pu ⟨a, xs, rfl, ha, fun e => q a H (Same.refl _) ?_, fun _ p np => q p _ (same_new np) (.inl (.inl upd_same))⟩
  have : cutV xs lo hi = xs := by
    unfold cutV
    rw [e.1, e.2, List.drop_zero, Nat.sub_zero, List.take_length]
  rw [this]; exact ha
theorem countP_str (k : Str) : ∀ {vs : List Value} {ys : List Str}, StrsAre vs ys → vs.countP (isStrOf k) = ys.count k
  | _, _, .nil => rfl
  | _, _, .cons n u h => by
    rw [List.countP_cons, List.count_cons, countP_str k h]
    rfl
/-- t.count(text) -/
def rCntS (K : PySem.W.Frag) : V → List V → Hp → VK → Prop := fun x xs H Q => ∃ (p : Addr) (ys : List Str) (k : Str), x = .ref p ∧ xs = [.str k] ∧ SqT K H p (ys.map V.str) ∧ Q (.int (ys.count k : Nat)) H
theorem mt_tcountS : MtR X "tuple.count" (rCntS X.K) := by
  intro pins s σ H x xs v us Q I rx rxs h
  obtain ⟨p, ys, k, rfl, rfl, hs, q⟩ := h
  cases rx
  obtain ⟨u, rfl, t, rfl⟩ := rxs.one
  obtain ⟨its, rv, ⟨⟨cls, dd, data, sl⟩, ho, hc, n, hd⟩, hlen⟩ := I.tuple hs
  simp only at hc hd
  subst hc hd
  have hi := strs_of_vals rv
  refine call_meets PySem.F.slot_tuple_count ⟨_, ho, rfl⟩ PySem.F.entry_tuple_count (PySem.F.args_tuple_count_2 _ _)
    (SeqAt.tuple_countAt p its.toArray n dd sl (.str k t) (isStrOf k)) ⟨ho, fun y hy => (eq_isStrOf k t hi y (by simpa using hy)).at _ _, ?_⟩
  have ec : its.toArray.toList.countP (isStrOf k) = ys.count k := countP_str k hi
  rw [ec]
  exact ⟨.int (ys.count k : Nat), H, I.tok _, ⟨s.toks, rfl⟩, q⟩
end
end Pr
/-! set, len, min, index and slices of tuples of ints. -/
namespace Pr
open PySem PySem.Spec PyProof.Rows L2
theorem reads_ints {h : Heap} : ∀ {l : List Int} {us : List Value}, Vals (l.map V.int) us → ∃ as, ReadsAll h us (l.map PyData.int) as
  | [], _, .nil => ⟨_, .nil⟩
  | x :: l, _, .cons rx rr => by
    obtain ⟨t, rfl⟩ := rx
    obtain ⟨as, r⟩ := reads_ints rr
    exact ⟨_, .cons (.int x t) r⟩
section
variable {X : Cx}
def rSetT' (K : PySem.W.Frag) (w : World) : List V → Hp → VK → Prop := fun vs H Q => ∃ (a : Addr) (ns : List Int), vs = [V.ref a] ∧ SqT K H a (ns.map V.int) ∧ ns.length ≤ 1000 ∧
  ∀ (l : Addr) (n : Nat) (ks : List Int), H l = none → ks.Nodup → (∀ k, k ∈ ks ↔ k ∈ ns) → ks.length = n → Q (.ref l) (upd H l (SetO w l (fun j => decide (j ∈ ns)) n))
theorem cr_setT (hc : X.calm = true) : CallR X (.type "set") (rSetT' X.K X.w) := by
  intro pins s σ H vs us Q I r h
  obtain ⟨a, ns, rfl, hs, hn, q⟩ := h
  obtain ⟨its, rv, pt, hz⟩ := I.tuple hs
  rw [Vals.ref1 r]
  refine call_set_tupI ns (I.ok.hd hc) pt (by simpa using rv.ints) (Nat.lt_of_le_of_lt (Nat.add_le_add_right hn 1) (by decide)) fun h' tk n R _ kp => ?_
  obtain ⟨o, es, ep, t, h1, h2, h3, h4, h5, h6, h7, h8, h9, h10⟩ := id R
  refine ⟨.ref s.heap.objs.size, _, I.laid (t' := tk) kp (Nat.le_refl _) (setO_new R), rfl, q _ n (es.toList.map keyOf) (I.hok.fresh (Nat.le_refl _)) h5 (fun k => ?_) (by rw [List.length_map, Array.length_toList]; exact h9)⟩
  rw [← h6 k, decide_eq_true_eq]
/-- len of a set of ints -/
def rLenSet (w : World) : List V → Hp → VK → Prop := fun vs H Q => ∃ (a : Addr) (S : Int → Bool) (n : Nat), vs = [V.ref a] ∧ H a = some (SetO w a S n) ∧ Q (.int (n : Nat)) H
theorem cr_lenSet : CallR X (.builtin "len") (rLenSet X.w) := by
  intro pins s σ H vs us Q I r h
  obtain ⟨a, S, n, rfl, ha, q⟩ := h
  rw [Vals.ref1 r]
  obtain ⟨o, es, ep, t, h1, h2, h3, h4, h5, h6, h7, h8, h9, h10⟩ := setO_get I ha
  have hz : es.size < 2 ^ 24 := Nat.lt_of_lt_of_le h7 (by decide)
  exact call_len_set h1 h2 h3 h8 (by omega) ⟨.int (n : Nat), H, I.tok _, ⟨_, by rw [h9]⟩, q⟩
/-- min of a tuple of ints -/
def rMinT (K : PySem.W.Frag) : List V → Hp → VK → Prop := fun vs H Q => ∃ (a : Addr) (n : Int) (ns : List Int), vs = [V.ref a] ∧ SqT K H a ((n :: ns).map V.int) ∧ Q (.int (ns.foldl min n)) H
theorem cr_minT (hc : X.calm = true) (hu : X.A.units + 64 < cLine) : CallR X (.builtin "min") (rMinT X.K) := by
  intro pins s σ H vs us Q I r h
  obtain ⟨a, n, ns, rfl, hs, q⟩ := h
  obtain ⟨its, rv, pt, hz⟩ := I.tuple hs
  rw [Vals.ref1 r]
  obtain ⟨as, ra⟩ := reads_ints (h := s.heap) (l := n :: ns) rv
  have dp : ∀ l : List Int, PyData.depthAll (l.map PyData.int) = 0 := fun l => by
    induction l with
    | nil => simp [PyData.depthAll]
    | cons x l ih => rw [List.map_cons]; simp only [PyData.depthAll, PyData.depth]; rw [ih]; rfl
  have alk : PySem.W.AlikeAll ((n :: ns).map PyData.int) := by
    refine ⟨fun x hx y hy => ?_, fun x hx e => ?_⟩
    · obtain ⟨i, _, rfl⟩ := List.mem_map.mp hx
      obtain ⟨j, _, rfl⟩ := List.mem_map.mp hy
      rfl
    · obtain ⟨i, _, rfl⟩ := List.mem_map.mp hx
      cases e
  refine PySem.W.min_tuple_data (I.ok.hd hc) pt (by simpa using ra) alk (by have := dp (n :: ns); rw [List.map_cons] at this; rw [this]; omega) fun i v h' tk bs _ rd kp => ?_
  rw [PySem.W.minD_ints] at rd
  cases rd with
  | int _ t => exact ⟨.int _, H, I.kept (t' := tk) kp, ⟨_, rfl⟩, q⟩
/-- t.index(k), it is there -/
def rIdxT (K : PySem.W.Frag) : V → List V → Hp → VK → Prop := fun x xs H Q => ∃ (p : Addr) (ns : List Int) (k : Int) (j : Nat), x = .ref p ∧ xs = [.int k] ∧ SqT K H p (ns.map V.int) ∧ ns[j]? = some k ∧ (∀ m, m < j → ns[m]? ≠ some k) ∧ Q (.int (j : Nat)) H
theorem mt_tindex : MtR X "tuple.index" (rIdxT X.K) := by
  intro pins s σ H x xs v us Q I rx rxs h
  obtain ⟨p, ns, k, j, rfl, rfl, hs, hj, hno, q⟩ := h
  cases rx
  obtain ⟨u, rfl, t, rfl⟩ := rxs.one
  obtain ⟨its, rv, ⟨⟨cls, dd, data, sl⟩, ho, hc, n, hd⟩, hlen⟩ := I.tuple hs
  simp only at hc hd
  subst hc hd
  have hi := ints_of_vals rv
  have len : its.toArray.size = ns.length := by simpa using hi.length
  have lj : j < its.toArray.size := by rw [len]; exact (List.getElem?_eq_some_iff.mp hj).1
  have nth : ∀ (m : Nat) (hm : m < its.toArray.size), eqk k its.toArray[m] = true ↔ ns[m]? = some k := fun m hm => by
    have hm' : m < ns.length := by rw [← len]; exact hm
    obtain ⟨tm, e⟩ := hi.get m _ (List.getElem?_eq_getElem hm')
    have e2 : its.toArray[m] = .int ns[m] tm := by
      have := (List.getElem?_eq_some_iff.mp e).2
      simpa using this
    rw [e2, List.getElem?_eq_getElem hm']
    show ((ns[m] == k) = true) ↔ _
    rw [beq_iff_eq]
    exact ⟨fun z => by rw [z], fun z => Option.some.inj z⟩
  refine call_meets PySem.F.slot_tuple_index ⟨_, ho, rfl⟩ PySem.F.entry_tuple_index (PySem.F.args_tuple_index_2 _ _) (TI.tuple_indexAt p its.toArray n dd sl (.int k t) (eqk k) j lj ((nth j lj).mpr hj) (fun m hm hmj => ?_))
    ⟨ho, fun y hy => (eqk_gives hi y (by simpa using hy)).at _ _, ⟨.int (j : Nat), H, I.tok _, ⟨_, rfl⟩, q⟩⟩
  exact (Bool.not_eq_true _).mp fun z => hno m hmj ((nth m hm).mp z)
/-- t[lo:hi] of a known tuple -/
def rSlF : V → Option Int → Option Int → Hp → VK → Prop := fun x lo hi H Q => ∃ a xs, x = .ref a ∧ FT H a xs ∧ ∀ p H', Same H H' → FT H' p (cutV xs lo hi) → Q (.ref p) H'
theorem sl_tupF : SlR X rSlF := by
  intro pins s σ H x v vl vu lo hi sl Q I rx hs pl pu h
  obtain ⟨a, xs, rfl, hF, q⟩ := h
  by_cases hw : HT.sIx xs.length 0 lo = 0 ∧ HT.sIx xs.length xs.length hi = xs.length
  · refine sl_tupA pins s σ H _ v vl vu lo hi sl Q I rx hs pl pu ⟨a, xs, rfl, hF.sq, fun e => q a H (Same.refl _) ?_, fun e => absurd hw e⟩
    have : cutV xs lo hi = xs := by
      unfold cutV
      rw [hw.1, hw.2, List.drop_zero, Nat.sub_zero, List.take_length]
    rw [this]; exact hF
  · cases rx
    obtain ⟨its, r, ht, hz⟩ := I.tuple (hF.sq (K := X.K))
    have len : its.toArray.size = xs.length := by simpa using r.length.symm
    refine ⟨"tuple", _, PyProof.Rows.slot_tuple_getitem.lookup, ht.typeIs, HT.getItem_tuple_cut ht hs pl pu (by rw [len]; exact hw) ?_ (by rw [len]; exact hz)⟩
    rw [len]
    have rr := (r.drop (HT.sIx xs.length 0 lo)).take (HT.sIx xs.length xs.length hi - HT.sIx xs.length 0 lo)
    exact ⟨.ref s.heap.objs.size, _, I.laid (t' := s.toks) (o := .frz { cls := .type "tuple", data := .seq ((its.drop (HT.sIx xs.length 0 lo)).take (HT.sIx xs.length xs.length hi - HT.sIx xs.length 0 lo)).toArray } (.tup (cutV xs lo hi))) (fun _ _ e => Heap.get?_push_of_some _ e) (Nat.le_refl _) ⟨Heap.get?_push_size _ rfl, Nat.le_trans (cutV_length xs lo hi) hz, _, rr, IsTup.new _ _⟩, rfl,
      q _ _ (same_new (I.hok.fresh (Nat.le_refl _))) ⟨_, upd_same, rfl⟩⟩
end
end Pr
/-! xs != [] and xs == []. -/
namespace Pr
open PySem PySem.Spec PyProof.Rows L2
theorem list_neL1 (l : Addr) (items : Array Value) (n : Nat) (b : Addr) (items2 : Array Value) (n2 : Nat) (hc0 : (items.size != items2.size) = true) :
    Meets (Builtin.«list.__ne__» ⟨[.ref l, .ref b], []⟩) (fun _ R s => s.heap.get? l = some { cls := .type "list", dict := none, data := .seq items n, slots := #[] } ∧ s.heap.get? b = some { cls := .type "list", dict := none, data := .seq items2 n2, slots := #[] } ∧ R (.ok (.ret (Value.bool (CmpOp.NotEq == CmpOp.NotEq)))) { s with heap := s.heap, toks := s.toks }) :=
  .of_wp fun prog w A R s h => by
    obtain ⟨hp, g, d, tk, os⟩ := s; obtain ⟨hl, hb, h⟩ := h
    have f3 := AutoSeq1.sub_list_list
    wp_walk using AutoSeq1.wpAny_loadPart' hl, AutoSeq1.wpAny_loadPart' hb
    exact ⟨_, rfl, h⟩
theorem list_eqL1 (l : Addr) (items : Array Value) (n : Nat) (b : Addr) (items2 : Array Value) (n2 : Nat) (hc0 : (items.size != items2.size) = true) :
    Meets (Builtin.«list.__eq__» ⟨[.ref l, .ref b], []⟩) (fun _ R s => s.heap.get? l = some { cls := .type "list", dict := none, data := .seq items n, slots := #[] } ∧ s.heap.get? b = some { cls := .type "list", dict := none, data := .seq items2 n2, slots := #[] } ∧ R (.ok (.ret (Value.bool (CmpOp.Eq == CmpOp.NotEq)))) { s with heap := s.heap, toks := s.toks }) :=
  .of_wp fun prog w A R s h => by
    obtain ⟨hp, g, d, tk, os⟩ := s; obtain ⟨hl, hb, h⟩ := h
    have f3 := AutoSeq1.sub_list_list
    wp_walk using AutoSeq1.wpAny_loadPart' hl, AutoSeq1.wpAny_loadPart' hb
    exact ⟨_, rfl, h⟩
section
variable {X : Cx}
/-- xs != [], two lists that stand -/
def rNeE1 : R2 := fun x y H Q => ∃ l b xs, x = .ref l ∧ y = .ref b ∧ H l = some (.lst xs) ∧ H b = some (.lst []) ∧ Q (.bl (!xs.isEmpty)) H
theorem op_neE1 (hu : X.A.units + 64 < cLine) : OpR X (compareOp .NotEq) rNeE1 := by
  intro pins s σ H x y v u Q I rx ry h
  obtain ⟨l, b, xs, rfl, rfl, hl, hb, q⟩ := h
  by_cases e : xs = []
  · subst e
    exact op_neD hu pins s σ H _ _ v u Q I rx ry ⟨.list [], .list [], .lst (.inl (.inl hl)) .nil, .lst (.inl (.inl hb)) .nil, rfl, rfl, q⟩
  · cases rx
    cases ry
    obtain ⟨_, its, n, rv, ho⟩ := I.hok _ _ hl
    obtain ⟨_, its2, n2, rv2, ho2⟩ := I.hok _ _ hb
    cases rv2
    have hlen := rv.length
    have hne : its.toArray.size ≠ 0 := by
      rw [List.size_toArray, ← hlen]
      exact fun z => e (List.eq_nil_of_length_eq_zero z)
    have q' : Q (.bl true) H := by
      have : xs.isEmpty = false := by
        cases xs with
        | nil => exact absurd rfl e
        | cons _ _ => rfl
      rw [this] at q; exact q
    exact richCompare_meets_room (op := .NotEq) ⟨_, ho, rfl⟩ ⟨_, ho2, rfl⟩ PySem.F.slot_list_ne PySem.F.entry_list_ne (PySem.F.args_list_ne_2 _ _) (list_neL1 l its.toArray n b ([] : List Value).toArray n2 (by simpa using hne))
      ⟨ho, ho2, show Value.bool (CmpOp.NotEq == CmpOp.NotEq) ≠ Value.notImplemented ∧ _ from ⟨(fun z => nomatch z), .bl true, H, I, rfl, q'⟩⟩ (by omega)
/-- xs == [], two lists that stand -/
def rEqE1 : R2 := fun x y H Q => ∃ l b xs, x = .ref l ∧ y = .ref b ∧ H l = some (.lst xs) ∧ H b = some (.lst []) ∧ Q (.bl xs.isEmpty) H
theorem op_eqE1 (hu : X.A.units + 64 < cLine) : OpR X (compareOp .Eq) rEqE1 := by
  intro pins s σ H x y v u Q I rx ry h
  obtain ⟨l, b, xs, rfl, rfl, hl, hb, q⟩ := h
  by_cases e : xs = []
  · subst e
    exact op_eqD hu pins s σ H _ _ v u Q I rx ry ⟨.list [], .list [], .lst (.inl (.inl hl)) .nil, .lst (.inl (.inl hb)) .nil, rfl, rfl, q⟩
  · cases rx
    cases ry
    obtain ⟨_, its, n, rv, ho⟩ := I.hok _ _ hl
    obtain ⟨_, its2, n2, rv2, ho2⟩ := I.hok _ _ hb
    cases rv2
    have hlen := rv.length
    have hne : its.toArray.size ≠ 0 := by
      rw [List.size_toArray, ← hlen]
      exact fun z => e (List.eq_nil_of_length_eq_zero z)
    have q' : Q (.bl false) H := by
      have : xs.isEmpty = false := by
        cases xs with
        | nil => exact absurd rfl e
        | cons _ _ => rfl
      rw [this] at q; exact q
    exact richCompare_meets_room (op := .Eq) ⟨_, ho, rfl⟩ ⟨_, ho2, rfl⟩ PySem.F.slot_list_eq PySem.F.entry_list_eq (PySem.F.args_list_eq_2 _ _) (list_eqL1 l its.toArray n b ([] : List Value).toArray n2 (by simpa using hne))
      ⟨ho, ho2, show Value.bool (CmpOp.Eq == CmpOp.NotEq) ≠ Value.notImplemented ∧ _ from ⟨(fun z => nomatch z), .bl false, H, I, rfl, q'⟩⟩ (by omega)
end
end Pr
/-! A layer over the rules: what an expression gives, as data. -/
namespace Pr
open PySem PySem.Spec PyProof.Rows L2

/-! ### data without lists -/
mutual
def lf : PyData → Bool
  | .list _ => false
  | .dict _ => false
  | .tuple ds => lfAll ds
  | .none => true
  | .bool _ => true
  | .int _ => true
  | .str _ => true
def lfAll : List PyData → Bool
  | [] => true
  | d :: r => lf d && lfAll r
end
theorem lfAll_of {ds : List PyData} (h : ∀ d ∈ ds, lf d = true) : lfAll ds = true := by
  induction ds with
  | nil => simp [lfAll]
  | cons d r ih => simp [lfAll, h d List.mem_cons_self, ih fun x hx => h x (List.mem_cons_of_mem _ hx)]
theorem lf_tup {ds : List PyData} (h : ∀ d ∈ ds, lf d = true) : lf (.tuple ds) = true := by simp only [lf]; exact lfAll_of h
theorem lf_ints (l : List Int) : lf (dInts l) = true := lf_tup fun d hd => by
  obtain ⟨x, _, rfl⟩ := List.mem_map.mp hd
  simp only [lf]
theorem lf_pan (p : List (List Int)) : lf (dPan p) = true := lf_tup fun d hd => by
  obtain ⟨x, _, rfl⟩ := List.mem_map.mp hd
  exact lf_ints x
theorem lf_strs (l : List Str) : lf (dStrs l) = true := lf_tup fun d hd => by
  obtain ⟨x, _, rfl⟩ := List.mem_map.mp hd
  simp only [lf]

/-! ### what stays -/
def Kp (H H' : Hp) : Prop := (∀ b xs, H b = some (.tup xs) → H' b = some (.tup xs)) ∧ ∀ b o u, H b = some (.frz o u) → H' b = some (.frz o u)
theorem Kp.refl (H : Hp) : Kp H H := ⟨fun _ _ h => h, fun _ _ _ h => h⟩
theorem Kp.trans {H H1 H2 : Hp} (x : Kp H H1) (y : Kp H1 H2) : Kp H H2 := ⟨fun b xs h => y.1 b xs (x.1 b xs h), fun b o u h => y.2 b o u (x.2 b o u h)⟩
theorem Kp.of {H H' : Hp} (x : Same H H') : Kp H H' := ⟨fun b xs h => x b _ h, fun b o u h => x b _ h⟩
theorem Kp.upd {H : Hp} {D : Addr} {xs : List V} {o : HO} (h : H D = some (.lst xs)) : Kp H (upd H D o) :=
  ⟨fun b ys e => by rw [upd_ne (ne_of e h (by intro z; cases z))]; exact e, fun b q u e => by rw [upd_ne (ne_of e h (by intro z; cases z))]; exact e⟩
theorem Kp.but {H H' : Hp} {a c : Addr} {m : Nat} (d : Deck H a c m) (b : But a c H H') : Kp H H' :=
  ⟨fun p xs e => let q := d.apart e (fun _ => by intro z; cases z); b _ _ q.1 q.2 e, fun p o u e => let q := d.apart e (fun _ => by intro z; cases z); b _ _ q.1 q.2 e⟩
theorem FT.kp {H H' : Hp} {a : Addr} {xs : List V} (e : Kp H H') (h : FT H a xs) : FT H' a xs := let ⟨o, q, z⟩ := h; ⟨o, e.2 _ _ _ q, z⟩
theorem PanAt.kp {H H' : Hp} {p : Addr} {pan : List (List Int)} (e : Kp H H') (h : PanAt H p pan) : PanAt H' p pan :=
  let ⟨qs, h1, h2⟩ := h; ⟨qs, h1.kp e, h2.mono fun _ _ x => x.kp e⟩
section
variable {K : PySem.W.Frag} {H H' : Hp}
theorem sqT_kp {a : Addr} {xs : List V} (e : Kp H H') (h : SqT K H a xs) : SqT K H' a xs := by
  rcases h with (h | ⟨o, h⟩) | h
  · exact .inl (.inl (e.1 _ _ h))
  · exact .inl (.inr ⟨o, e.2 _ _ _ h⟩)
  · exact .inr h
mutual
theorem dp_same (e : Same H H') : ∀ (d : PyData) (v : V), Dp K H v d → Dp K H' v d
  | .none, _, h => by cases h; exact .non
  | .bool _, _, h => by cases h; exact .bl _
  | .int _, _, h => by cases h; exact .int _
  | .str _, _, h => by cases h; exact .str _
  | .list ds, _, h => by cases h with | lst q r => exact .lst (e.seq q) (dpAll_same e ds _ r)
  | .tuple ds, _, h => by cases h with | tup q r => exact .tup (same_sqT e q) (dpAll_same e ds _ r)
  | .dict _, _, h => by cases h
theorem dpAll_same (e : Same H H') : ∀ (ds : List PyData) (vs : List V), DpAll K H vs ds → DpAll K H' vs ds
  | [], _, h => by cases h; exact .nil
  | d :: r, _, h => by cases h with | cons x y => exact .cons (dp_same e d _ x) (dpAll_same e r _ y)
end
mutual
theorem dp_kp (e : Kp H H') : ∀ (d : PyData) (v : V), lf d = true → Dp K H v d → Dp K H' v d
  | .none, _, _, h => by cases h; exact .non
  | .bool _, _, _, h => by cases h; exact .bl _
  | .int _, _, _, h => by cases h; exact .int _
  | .str _, _, _, h => by cases h; exact .str _
  | .list ds, _, z, h => by simp [lf] at z
  | .tuple ds, _, z, h => by cases h with | tup q r => exact .tup (sqT_kp e q) (dpAll_kp e ds _ (by simpa [lf] using z) r)
  | .dict _, _, _, h => by cases h
theorem dpAll_kp (e : Kp H H') : ∀ (ds : List PyData) (vs : List V), lfAll ds = true → DpAll K H vs ds → DpAll K H' vs ds
  | [], _, _, h => by cases h; exact .nil
  | d :: r, _, z, h => by
    simp only [lfAll, Bool.and_eq_true] at z
    cases h with | cons x y => exact .cons (dp_kp e d _ z.1 x) (dpAll_kp e r _ z.2 y)
end
theorem _root_.L2.Dp.sm {d : PyData} {v : V} (h : Dp K H v d) (e : Same H H') : Dp K H' v d := dp_same e d v h
theorem _root_.L2.DpAll.sm {ds : List PyData} {vs : List V} (h : DpAll K H vs ds) (e : Same H H') : DpAll K H' vs ds := dpAll_same e ds vs h
theorem _root_.L2.Dp.kp {d : PyData} {v : V} (h : Dp K H v d) (e : Kp H H') (z : lf d = true := by first | exact lf_pan _ | exact lf_ints _ | exact lf_strs _ | rfl | assumption) : Dp K H' v d := dp_kp e d v z h
theorem _root_.L2.DpAll.length {ds : List PyData} : ∀ {vs : List V}, DpAll K H vs ds → vs.length = ds.length := by
  induction ds with
  | nil => intro vs h; cases h; rfl
  | cons d r ih => intro vs h; cases h with | cons x y => simp [ih y]
theorem _root_.L2.DpAll.get {ds : List PyData} : ∀ {vs : List V}, DpAll K H vs ds → ∀ (i : Nat) (d : PyData), ds[i]? = some d → ∃ v, vs[i]? = some v ∧ Dp K H v d := by
  induction ds with
  | nil => intro vs h i d e; simp at e
  | cons d' r ih =>
    intro vs h i d e
    cases h with
    | cons x y =>
      cases i with
      | zero => simp at e; subst e; exact ⟨_, rfl, x⟩
      | succ i => obtain ⟨v, h1, h2⟩ := ih y i d (by simpa using e); exact ⟨v, by simpa using h1, h2⟩
theorem _root_.L2.DpAll.of_get {vs : List V} {ds : List PyData} (hl : vs.length = ds.length) (h : ∀ (i : Nat) v d, vs[i]? = some v → ds[i]? = some d → Dp K H v d) : DpAll K H vs ds := by
  induction vs generalizing ds with
  | nil => cases ds with | nil => exact .nil | cons d r => simp at hl
  | cons v r ih =>
    cases ds with
    | nil => simp at hl
    | cons d ds => exact .cons (h 0 v d rfl rfl) (ih (by simpa using hl) fun i v d h1 h2 => h (i + 1) v d (by simpa using h1) (by simpa using h2))
theorem _root_.L2.DpAll.append {d1 d2 : List PyData} : ∀ {v1 v2 : List V}, DpAll K H v1 d1 → DpAll K H v2 d2 → DpAll K H (v1 ++ v2) (d1 ++ d2) := by
  induction d1 with
  | nil => intro v1 v2 h g; cases h; exact g
  | cons d r ih => intro v1 v2 h g; cases h with | cons x y => exact .cons x (ih y g)
theorem _root_.L2.DpAll.take {ds : List PyData} : ∀ {vs : List V} (n : Nat), DpAll K H vs ds → DpAll K H (vs.take n) (ds.take n) := by
  induction ds with
  | nil => intro vs n h; cases h; simp; exact .nil
  | cons d r ih =>
    intro vs n h
    cases h with
    | cons x y =>
      cases n with
      | zero => simp; exact .nil
      | succ n => simpa using DpAll.cons x (ih n y)
theorem _root_.L2.DpAll.drop {ds : List PyData} : ∀ {vs : List V} (n : Nat), DpAll K H vs ds → DpAll K H (vs.drop n) (ds.drop n) := by
  induction ds with
  | nil => intro vs n h; cases h; simp; exact .nil
  | cons d r ih =>
    intro vs n h
    cases h with
    | cons x y =>
      cases n with
      | zero => simpa using DpAll.cons x y
      | succ n => simpa using ih n y
theorem _root_.L2.DpAll.reverse {ds : List PyData} : ∀ {vs : List V}, DpAll K H vs ds → DpAll K H vs.reverse ds.reverse := by
  induction ds with
  | nil => intro vs h; cases h; exact .nil
  | cons d r ih =>
    intro vs h
    cases h with
    | cons x y => rw [List.reverse_cons, List.reverse_cons]; exact DpAll.append (ih y) (.cons x .nil)
theorem dpAll_intsV : ∀ {l : List Int} {vs : List V}, DpAll K H vs (l.map PyData.int) → vs = l.map V.int
  | [], _, h => by cases h; rfl
  | x :: r, _, h => by
    rw [List.map_cons] at h
    cases h with | cons a b => cases a; rw [dpAll_intsV b]; rfl
theorem dpAll_strsV : ∀ {l : List Str} {vs : List V}, DpAll K H vs (l.map PyData.str) → vs = l.map V.str
  | [], _, h => by cases h; rfl
  | x :: r, _, h => by
    rw [List.map_cons] at h
    cases h with | cons a b => cases a; rw [dpAll_strsV b]; rfl
theorem dpAll_blsV : ∀ {l : List Bool} {vs : List V}, DpAll K H vs (l.map PyData.bool) → vs = l.map V.bl
  | [], _, h => by cases h; rfl
  | x :: r, _, h => by
    rw [List.map_cons] at h
    cases h with | cons a b => cases a; rw [dpAll_blsV b]; rfl
theorem _root_.L2.Dp.tupI {v : V} {ds : List PyData} (h : Dp K H v (.tuple ds)) : ∃ a xs, v = .ref a ∧ SqT K H a xs ∧ DpAll K H xs ds := by cases h with | tup q r => exact ⟨_, _, rfl, q, r⟩
theorem _root_.L2.Dp.lstI {v : V} {ds : List PyData} (h : Dp K H v (.list ds)) : ∃ a xs, v = .ref a ∧ SqL K H a xs ∧ DpAll K H xs ds := by cases h with | lst q r => exact ⟨_, _, rfl, q, r⟩
theorem _root_.L2.Dp.intsI {v : V} {l : List Int} (h : Dp K H v (dInts l)) : ∃ a, v = .ref a ∧ SqT K H a (l.map V.int) := by
  obtain ⟨a, xs, rfl, q, r⟩ := Dp.tupI h
  rw [dpAll_intsV r] at q
  exact ⟨a, rfl, q⟩
theorem _root_.L2.Dp.strsI {v : V} {l : List Str} (h : Dp K H v (dStrs l)) : ∃ a, v = .ref a ∧ SqT K H a (l.map V.str) := by
  obtain ⟨a, xs, rfl, q, r⟩ := Dp.tupI h
  rw [dpAll_strsV r] at q
  exact ⟨a, rfl, q⟩
end

/-! ### gives -/
section
variable (K : PySem.W.Frag)
def Gv (t : TE) (σ : L2.St) (H : Hp) (d : PyData) : Prop := ∀ H1, Same H H1 → ∀ Q : VK, (∀ v H', Same H1 H' → Dp K H' v d → Q v H') → t σ H1 Q
/-- a list that is tracked -/
def GvL (t : TE) (σ : L2.St) (H : Hp) (ds : List PyData) : Prop := ∀ H1, Same H H1 → ∀ Q : VK, (∀ a vs H', Same H1 H' → H' a = some (.lst vs) → DpAll K H' vs ds → Q (.ref a) H') → t σ H1 Q
/-- a new list -/
def GvN (t : TE) (σ : L2.St) (H : Hp) (ds : List PyData) : Prop := ∀ H1, Same H H1 → ∀ Q : VK, (∀ a vs H', Same H1 H' → H1 a = none → H' a = some (.lst vs) → DpAll K H' vs ds → Q (.ref a) H') → t σ H1 Q
def GvA (t : TA) (σ : L2.St) (H : Hp) (ds : List PyData) : Prop := ∀ H1, Same H H1 → ∀ Q : List V → Hp → Prop, (∀ vs H', Same H1 H' → DpAll K H' vs ds → Q vs H') → t σ H1 Q
def GvT (t : TT) (σ : L2.St) (H : Hp) (b : Bool) : Prop := ∀ H1, Same H H1 → ∀ Q : Bool → Hp → Prop, (∀ H', Same H1 H' → Q b H') → t σ H1 Q
/-- what a walk gives, while what it goes over stays as R says -/
def GvI (R : Hp → Hp → Prop) (wi : TI) (σ : L2.St) (H : Hp) (ds : List PyData) : Prop := ∀ H1, Same H H1 → ∀ Q : It → Hp → Prop,
  (∀ J H', Same H1 H' → Walk J ds.length (R H') (fun i h x h' => Same h h' ∧ ∃ d, ds[i]? = some d ∧ Dp K h' x d) → Q J H') → wi σ H1 Q
end
section
variable {K : PySem.W.Frag} {σ : L2.St} {H H' : Hp} {t ta tb : TE} {d e : PyData} {ds : List PyData} {ta' : TA} {tt uu : TT} {b c : Bool}
theorem GvN.gl (h : GvN K t σ H ds) : GvL K t σ H ds := fun H1 s Q q => h H1 s Q fun a vs H' s' _ e dv => q a vs H' s' e dv
theorem GvN.at (h : GvN K t σ H ds) {Q : VK} (q : ∀ a vs H', Same H H' → H a = none → H' a = some (.lst vs) → DpAll K H' vs ds → Q (.ref a) H') : t σ H Q := h H (Same.refl _) Q q
theorem GvN.to {es : List PyData} (h : GvN K t σ H ds) (q : ds = es) : GvN K t σ H es := q ▸ h
theorem GvN.gv (h : GvN K t σ H ds) : Gv K t σ H (.list ds) := fun H1 s Q q => h H1 s Q fun a vs H' s' _ e dv => q _ H' s' (.lst (.inl (.inl e)) dv)
theorem GvL.gv (h : GvL K t σ H ds) : Gv K t σ H (.list ds) := fun H1 s Q q => h H1 s Q fun a vs H' s' e dv => q _ H' s' (.lst (.inl (.inl e)) dv)
theorem GvL.at (h : GvL K t σ H ds) {Q : VK} (q : ∀ a vs H', Same H H' → H' a = some (.lst vs) → DpAll K H' vs ds → Q (.ref a) H') : t σ H Q := h H (Same.refl _) Q q
theorem GvL.to {es : List PyData} (h : GvL K t σ H ds) (q : ds = es) : GvL K t σ H es := q ▸ h
theorem gl_var {i : Nat} {a : Addr} {vs : List V} (h : σ[i]? = some (some (.ref a))) (e : H a = some (.lst vs)) (hd : DpAll K H vs ds) : GvL K (tVar i) σ H ds := fun H1 s Q q => ⟨_, h, q a vs H1 (Same.refl _) (s _ _ e) (hd.sm s)⟩
theorem Gv.at (h : Gv K t σ H d) {Q : VK} (q : ∀ v H', Same H H' → Dp K H' v d → Q v H') : t σ H Q := h H (Same.refl _) Q q
theorem Gv.sm (h : Gv K t σ H d) (s : Same H H') : Gv K t σ H' d := fun H1 s1 => h H1 (s.trans s1)
theorem Gv.to (h : Gv K t σ H d) (q : d = e) : Gv K t σ H e := q ▸ h
theorem GvT.at (h : GvT tt σ H b) {Q : Bool → Hp → Prop} (q : ∀ H', Same H H' → Q b H') : tt σ H Q := h H (Same.refl _) Q q
theorem GvT.to (h : GvT tt σ H b) (q : b = c) : GvT tt σ H c := q ▸ h
theorem gv_var {i : Nat} {v : V} (h : σ[i]? = some (some v)) (hd : Dp K H v d) : Gv K (tVar i) σ H d := fun H1 s Q q => ⟨v, h, q v H1 (Same.refl _) (hd.sm s)⟩
theorem gv_int {i : Int} : Gv K (tC (.int i)) σ H (.int i) := fun H1 _ Q q => q _ H1 (Same.refl _) (.int i)
theorem gv_str {x : Str} : Gv K (tC (.str x)) σ H (.str x) := fun H1 _ Q q => q _ H1 (Same.refl _) (.str x)
theorem gv_bl {x : Bool} : Gv K (tC (.bl x)) σ H (.bool x) := fun H1 _ Q q => q _ H1 (Same.refl _) (.bl x)
theorem gv_non : Gv K (tC .non) σ H .none := fun H1 _ Q q => q _ H1 (Same.refl _) .non
theorem gva_nil : GvA K tNil σ H [] := fun H1 _ Q q => q [] H1 (Same.refl _) .nil
theorem gva_cons {tr : TA} (h : Gv K t σ H d) (g : GvA K tr σ H ds) : GvA K (tCons t tr) σ H (d :: ds) := fun H1 s Q q =>
  h H1 s _ fun v H2 s2 d2 => g H2 (s.trans s2) _ fun vs H3 s3 d3 => q _ H3 (s2.trans s3) (.cons (d2.sm s3) d3)
theorem gva_starT {es : List PyData} {tr : TA} (h : Gv K t σ H (.tuple es)) (g : GvA K tr σ H ds) : GvA K (StX.tStar K t tr) σ H (es ++ ds) := fun H1 s Q q =>
  h H1 s _ fun v H2 s2 d2 => by
    obtain ⟨a, xs, rfl, hq, hr⟩ := d2.tupI
    exact ⟨a, xs, rfl, .inl hq, g H2 (s.trans s2) _ fun vs H3 s3 d3 => q _ H3 (s2.trans s3) (DpAll.append (hr.sm s3) d3)⟩
theorem gva_starL {es : List PyData} {tr : TA} (h : Gv K t σ H (.list es)) (g : GvA K tr σ H ds) : GvA K (StX.tStar K t tr) σ H (es ++ ds) := fun H1 s Q q =>
  h H1 s _ fun v H2 s2 d2 => by
    obtain ⟨a, xs, rfl, hq, hr⟩ := d2.lstI
    exact ⟨a, xs, rfl, .inr hq, g H2 (s.trans s2) _ fun vs H3 s3 d3 => q _ H3 (s2.trans s3) (DpAll.append (hr.sm s3) d3)⟩
theorem small5 {n : Nat} (h : n ≤ 100000) : n < sizeLine := Nat.lt_of_le_of_lt h (by decide)
theorem gv_tup (h : GvA K ta' σ H ds) (hl : ds.length ≤ sizeLine := by first | decide | exact Nat.le_of_lt (small5 (by simp only [List.length_cons, List.length_nil]; decide))) : Gv K (tTup ta') σ H (.tuple ds) := fun H1 s Q q => h H1 s _ fun vs H2 s2 d2 =>
  ⟨by rw [d2.length]; exact hl, fun p np => q _ _ (s2.trans (same_new np)) (.tup (.inl (.inl upd_same)) (d2.sm (same_new np)))⟩
theorem gn_lst (h : GvA K ta' σ H ds) (hl : ds.length ≤ sizeLine := by first | decide | exact Nat.le_of_lt (small5 (by simp only [List.length_cons, List.length_nil]; decide))) : GvN K (tLst ta') σ H ds := fun H1 s Q q => h H1 s _ fun vs H2 s2 d2 =>
  ⟨by rw [d2.length]; exact hl, fun p np => q _ _ _ (s2.trans (same_new np)) (s2.free np) upd_same (d2.sm (same_new np))⟩
theorem gl_lst (h : GvA K ta' σ H ds) (hl : ds.length ≤ sizeLine := by first | decide | exact Nat.le_of_lt (small5 (by simp only [List.length_cons, List.length_nil]; decide))) : GvL K (tLst ta') σ H ds := (gn_lst h hl).gl
theorem gv_lst (h : GvA K ta' σ H ds) (hl : ds.length ≤ sizeLine := by first | decide | exact Nat.le_of_lt (small5 (by simp only [List.length_cons, List.length_nil]; decide))) : Gv K (tLst ta') σ H (.list ds) := (gl_lst h hl).gv
theorem gv_op2 {r : R2} (ha : Gv K ta σ H d) (hb : Gv K tb σ H e) {f : PyData} (hr : ∀ x y H1 Q, Same H H1 → Dp K H1 x d → Dp K H1 y e → (∀ v H', Same H1 H' → Dp K H' v f → Q v H') → r x y H1 Q) : Gv K (tOp r ta tb) σ H f := fun H1 s Q q =>
  ha H1 s _ fun x H2 s2 d2 => hb H2 (s.trans s2) _ fun y H3 s3 d3 => hr x y H3 Q ((s.trans s2).trans s3) (d2.sm s3) d3 fun v H4 s4 d4 => q v H4 ((s2.trans s3).trans s4) d4
theorem gv_I0 {g : Int → Int → V} {i j : Int} (ha : Gv K ta σ H (.int i)) (hb : Gv K tb σ H (.int j)) {f : PyData} (hf : ∀ H, Dp K H (g i j) f) : Gv K (tOp (rI0 g) ta tb) σ H f :=
  gv_op2 ha hb fun x y H1 Q s hx hy q => by cases hx; cases hy; exact ⟨i, j, rfl, rfl, q _ _ (Same.refl _) (hf _)⟩
theorem gv_I {C : Int → Int → Prop} {g : Int → Int → V} {i j : Int} (ha : Gv K ta σ H (.int i)) (hb : Gv K tb σ H (.int j)) (hc : C i j) {f : PyData} (hf : ∀ H, Dp K H (g i j) f) : Gv K (tOp (rI C g) ta tb) σ H f :=
  gv_op2 ha hb fun x y H1 Q s hx hy q => by cases hx; cases hy; exact ⟨i, j, rfl, rfl, hc, q _ _ (Same.refl _) (hf _)⟩
theorem gv_add {i j : Int} (ha : Gv K ta σ H (.int i)) (hb : Gv K tb σ H (.int j)) : Gv K (tOp (rI0 fun i j => V.int (i + j)) ta tb) σ H (.int (i + j)) := gv_I0 ha hb fun _ => .int _
theorem gv_sub {i j : Int} (ha : Gv K ta σ H (.int i)) (hb : Gv K tb σ H (.int j)) : Gv K (tOp (rI0 fun i j => V.int (i - j)) ta tb) σ H (.int (i - j)) := gv_I0 ha hb fun _ => .int _
theorem gv_eqI {i j : Int} (ha : Gv K ta σ H (.int i)) (hb : Gv K tb σ H (.int j)) : Gv K (tOp rEq ta tb) σ H (.bool (decide (i = j))) :=
  gv_op2 ha hb fun x y H1 Q s hx hy q => by
    cases hx; cases hy
    refine ⟨rfl, q _ _ (Same.refl _) ?_⟩
    rw [show decide (V.int i = V.int j) = decide (i = j) from decide_eq_decide.mpr ⟨fun h => V.int.inj h, fun h => by rw [h]⟩]
    exact .bl _
theorem gv_neI {i j : Int} (ha : Gv K ta σ H (.int i)) (hb : Gv K tb σ H (.int j)) : Gv K (tOp rNe ta tb) σ H (.bool (!decide (i = j))) :=
  gv_op2 ha hb fun x y H1 Q s hx hy q => by
    cases hx; cases hy
    refine ⟨rfl, q _ _ (Same.refl _) ?_⟩
    rw [show decide (V.int i = V.int j) = decide (i = j) from decide_eq_decide.mpr ⟨fun h => V.int.inj h, fun h => by rw [h]⟩]
    exact .bl _
theorem gv_eqS {i j : Str} (ha : Gv K ta σ H (.str i)) (hb : Gv K tb σ H (.str j)) : Gv K (tOp rEq ta tb) σ H (.bool (decide (i = j))) :=
  gv_op2 ha hb fun x y H1 Q s hx hy q => by
    cases hx; cases hy
    refine ⟨rfl, q _ _ (Same.refl _) ?_⟩
    rw [show decide (V.str i = V.str j) = decide (i = j) from decide_eq_decide.mpr ⟨fun h => V.str.inj h, fun h => by rw [h]⟩]
    exact .bl _
theorem gv_neS {i j : Str} (ha : Gv K ta σ H (.str i)) (hb : Gv K tb σ H (.str j)) : Gv K (tOp rNe ta tb) σ H (.bool (!decide (i = j))) :=
  gv_op2 ha hb fun x y H1 Q s hx hy q => by
    cases hx; cases hy
    refine ⟨rfl, q _ _ (Same.refl _) ?_⟩
    rw [show decide (V.str i = V.str j) = decide (i = j) from decide_eq_decide.mpr ⟨fun h => V.str.inj h, fun h => by rw [h]⟩]
    exact .bl _
theorem gv_eqD (ha : Gv K ta σ H d) (hb : Gv K tb σ H e) (h1 : SeqAt.shaped d = true) (h2 : SeqAt.shaped e = true) : Gv K (tOp (rEqD K) ta tb) σ H (.bool (PyData.eqv d e)) :=
  gv_op2 ha hb fun x y H1 Q s hx hy q => ⟨d, e, hx, hy, h1, h2, q _ _ (Same.refl _) (.bl _)⟩
theorem gv_neD (ha : Gv K ta σ H d) (hb : Gv K tb σ H e) (h1 : SeqAt.shaped d = true) (h2 : SeqAt.shaped e = true) : Gv K (tOp (rNeD K) ta tb) σ H (.bool (!PyData.eqv d e)) :=
  gv_op2 ha hb fun x y H1 Q s hx hy q => ⟨d, e, hx, hy, h1, h2, q _ _ (Same.refl _) (.bl _)⟩
theorem inV_intsG {b : Int} (l : List Int) : inV (.int b) (l.map V.int) = decide (b ∈ l) := by
  unfold inV
  rw [List.any_map, Bool.eq_iff_iff, List.any_eq_true, decide_eq_true_eq]
  constructor
  · rintro ⟨x, hx, e⟩
    have e' : x = b := by simpa [eqV] using e
    rw [← e']; exact hx
  · intro h
    exact ⟨b, h, by simp [eqV]⟩
theorem flat_intsG : ∀ l : List Int, (l.map V.int).all flatV = true
  | [] => rfl
  | x :: r => by rw [List.map_cons, List.all_cons, flat_intsG r]; rfl
theorem flat_strsG : ∀ l : List Str, (l.map V.str).all flatV = true
  | [] => rfl
  | x :: r => by rw [List.map_cons, List.all_cons, flat_strsG r]; rfl
theorem gv_inT {neg : Bool} {i : Int} {l : List Int} (ha : Gv K ta σ H (.int i)) (hb : Gv K tb σ H (dInts l)) : Gv K (tOp (rIn K neg) ta tb) σ H (.bool (if neg then !decide (i ∈ l) else decide (i ∈ l))) :=
  gv_op2 ha hb fun x y H1 Q s hx hy q => by
    cases hx
    obtain ⟨a, rfl, hq⟩ := hy.intsI
    refine ⟨a, _, rfl, .inr hq, rfl, flat_intsG l, ?_⟩
    rw [inV_intsG]
    exact q _ _ (Same.refl _) (.bl _)
theorem gv_inL {neg : Bool} {i : Int} {l : List Int} (ha : Gv K ta σ H (.int i)) (hb : Gv K tb σ H (.list (l.map PyData.int))) : Gv K (tOp (rIn K neg) ta tb) σ H (.bool (if neg then !decide (i ∈ l) else decide (i ∈ l))) :=
  gv_op2 ha hb fun x y H1 Q s hx hy q => by
    cases hx
    obtain ⟨a, xs, rfl, hq, hr⟩ := hy.lstI
    rw [dpAll_intsV hr] at hq
    refine ⟨a, _, rfl, .inl hq, rfl, flat_intsG l, ?_⟩
    rw [inV_intsG]
    exact q _ _ (Same.refl _) (.bl _)
theorem gv_inS {neg : Bool} {i : Str} {l : List Str} (ha : Gv K ta σ H (.str i)) (hb : Gv K tb σ H (dStrs l)) : Gv K (tOp (rIn K neg) ta tb) σ H (.bool (if neg then !decide (i ∈ l) else decide (i ∈ l))) :=
  gv_op2 ha hb fun x y H1 Q s hx hy q => by
    cases hx
    obtain ⟨a, rfl, hq⟩ := hy.strsI
    refine ⟨a, _, rfl, .inr hq, rfl, flat_strsG l, ?_⟩
    rw [inV_strs]
    exact q _ _ (Same.refl _) (.bl _)
theorem gv_ixT {i : Int} {j : Nat} (ha : Gv K ta σ H (.tuple ds)) (hb : Gv K tb σ H (.int i)) (hi : i = (j : Int)) (hj : ds[j]? = some d) : Gv K (tOp (rIxT K) ta tb) σ H d :=
  gv_op2 ha hb fun x y H1 Q s hx hy q => by
    cases hy
    obtain ⟨a, xs, rfl, hq, hr⟩ := hx.tupI
    obtain ⟨v, hv, dv⟩ := hr.get j d hj
    exact ⟨a, xs, i, v, rfl, rfl, hq, by rw [hi]; exact atI_nat hv, q _ _ (Same.refl _) dv⟩
theorem gv_ixL {i : Int} {j : Nat} (ha : Gv K ta σ H (.list ds)) (hb : Gv K tb σ H (.int i)) (hi : i = (j : Int)) (hj : ds[j]? = some d) : Gv K (tOp (rIxL K) ta tb) σ H d :=
  gv_op2 ha hb fun x y H1 Q s hx hy q => by
    cases hy
    obtain ⟨a, xs, rfl, hq, hr⟩ := hx.lstI
    obtain ⟨v, hv, dv⟩ := hr.get j d hj
    exact ⟨a, xs, i, v, rfl, rfl, hq, by rw [hi]; exact atI_nat hv, q _ _ (Same.refl _) dv⟩
theorem gv_pan {i : Int} {pan : List (List Int)} (ha : Gv K ta σ H (dPan pan)) (hb : Gv K tb σ H (.int i)) (h0 : 0 ≤ i) (h1 : i < (pan.length : Int)) : Gv K (tOp (rIxT K) ta tb) σ H (dInts (pan.getD i.toNat [])) := by
  refine gv_ixT (j := i.toNat) ha hb (by omega) ?_
  rw [List.getElem?_map, List.getD_eq_getElem?_getD, List.getElem?_eq_getElem (by omega)]; rfl
/-! builtins of one argument -/
theorem gv_cb {r : List V → Hp → VK → Prop} (h : GvA K ta' σ H ds) {f : PyData} (hr : ∀ vs H1 Q, Same H H1 → DpAll K H1 vs ds → (∀ v H', Same H1 H' → Dp K H' v f → Q v H') → r vs H1 Q) : Gv K (tCB r ta') σ H f := fun H1 s Q q =>
  h H1 s _ fun vs H2 s2 d2 => hr vs H2 Q (s.trans s2) d2 fun v H3 s3 d3 => q v H3 (s2.trans s3) d3
theorem dpAll1 {vs : List V} (h : DpAll K H vs [d]) : ∃ v, vs = [v] ∧ Dp K H v d := by
  cases h with | cons x y => cases y; exact ⟨_, rfl, x⟩
theorem dpAll2 {vs : List V} (h : DpAll K H vs [d, e]) : ∃ v u, vs = [v, u] ∧ Dp K H v d ∧ Dp K H u e := by
  cases h with | cons x y => obtain ⟨u, rfl, z⟩ := dpAll1 y; exact ⟨_, _, rfl, x, z⟩
theorem dpAll3 {f : PyData} {vs : List V} (h : DpAll K H vs [d, e, f]) : ∃ v u w, vs = [v, u, w] ∧ Dp K H v d ∧ Dp K H u e ∧ Dp K H w f := by
  cases h with | cons x y => obtain ⟨u, w, rfl, z⟩ := dpAll2 y; exact ⟨_, _, _, rfl, x, z⟩
theorem dpAll4 {f g : PyData} {vs : List V} (h : DpAll K H vs [d, e, f, g]) : ∃ v u w z, vs = [v, u, w, z] ∧ Dp K H v d ∧ Dp K H u e ∧ Dp K H w f ∧ Dp K H z g := by
  cases h with | cons x y => obtain ⟨u, w, q, rfl, z⟩ := dpAll3 y; exact ⟨_, _, _, _, rfl, x, z⟩
def rLenG (K : PySem.W.Frag) : List V → Hp → VK → Prop := fun xs H Q => ∃ p ys, xs = [V.ref p] ∧ (SqL K H p ys ∨ SqT K H p ys) ∧ Q (.int ys.length) H
theorem cr_lenG {X : Cx} : CallR X (.builtin "len") (rLenG X.K) := call_len_seq
def rTupG (K : PySem.W.Frag) : List V → Hp → VK → Prop := fun xs H Q => ∃ p ys, xs = [V.ref p] ∧ ((SqL K H p ys ∧ ∀ l, H l = none → Q (.ref l) (upd H l (.tup ys))) ∨ (SqT K H p ys ∧ Q (.ref p) H))
theorem cr_tupG {X : Cx} : CallR X (.type "tuple") (rTupG X.K) := call_tuple_of
theorem gv_lenT (h : Gv K t σ H (.tuple ds)) : Gv K (tCB (rLenG K) (tCons t tNil)) σ H (.int ds.length) :=
  gv_cb (gva_cons h gva_nil) fun vs H1 Q s hd q => by
    obtain ⟨v, rfl, hv⟩ := dpAll1 hd
    obtain ⟨a, xs, rfl, hq, hr⟩ := hv.tupI
    exact ⟨a, xs, rfl, .inr hq, by rw [hr.length]; exact q _ _ (Same.refl _) (.int _)⟩
theorem gv_lenL (h : Gv K t σ H (.list ds)) : Gv K (tCB (rLenG K) (tCons t tNil)) σ H (.int ds.length) :=
  gv_cb (gva_cons h gva_nil) fun vs H1 Q s hd q => by
    obtain ⟨v, rfl, hv⟩ := dpAll1 hd
    obtain ⟨a, xs, rfl, hq, hr⟩ := hv.lstI
    exact ⟨a, xs, rfl, .inl hq, by rw [hr.length]; exact q _ _ (Same.refl _) (.int _)⟩
theorem gv_tupL (h : Gv K t σ H (.list ds)) : Gv K (tCB (rTupG K) (tCons t tNil)) σ H (.tuple ds) :=
  gv_cb (gva_cons h gva_nil) fun vs H1 Q s hd q => by
    obtain ⟨v, rfl, hv⟩ := dpAll1 hd
    obtain ⟨a, xs, rfl, hq, hr⟩ := hv.lstI
    exact ⟨a, xs, rfl, .inl ⟨hq, fun l nl => q _ _ (same_new nl) (.tup (.inl (.inl upd_same)) (hr.sm (same_new nl)))⟩⟩
theorem gv_tupF (h : Gv K t σ H (.list ds)) : Gv K (tCB (rTupF K) (tCons t tNil)) σ H (.tuple ds) :=
  gv_cb (gva_cons h gva_nil) fun vs H1 Q s hd q => by
    obtain ⟨v, rfl, hv⟩ := dpAll1 hd
    obtain ⟨a, xs, rfl, hq, hr⟩ := hv.lstI
    exact ⟨a, xs, rfl, hq, fun l o nl _ => q _ _ (same_new nl) (.tup (.inl (.inr ⟨o, upd_same⟩)) (hr.sm (same_new nl)))⟩
theorem gn_lstT (h : Gv K t σ H (.tuple ds)) : GvN K (tCB (rListG K) (tCons t tNil)) σ H ds := fun H1 s Q q => h H1 s _ fun v H2 s2 d2 => by
    obtain ⟨a, xs, rfl, hq, hr⟩ := d2.tupI
    exact ⟨a, xs, rfl, hq, fun l nl _ => q _ _ _ (s2.trans (same_new nl)) (s2.free nl) upd_same (hr.sm (same_new nl))⟩
theorem gl_lstT (h : Gv K t σ H (.tuple ds)) : GvL K (tCB (rListG K) (tCons t tNil)) σ H ds := (gn_lstT h).gl
theorem gv_lstT (h : Gv K t σ H (.tuple ds)) : Gv K (tCB (rListG K) (tCons t tNil)) σ H (.list ds) :=
  gv_cb (gva_cons h gva_nil) fun vs H1 Q s hd q => by
    obtain ⟨v, rfl, hv⟩ := dpAll1 hd
    obtain ⟨a, xs, rfl, hq, hr⟩ := hv.tupI
    exact ⟨a, xs, rfl, hq, fun l nl _ => q _ _ (same_new nl) (.lst (.inl (.inl upd_same)) (hr.sm (same_new nl)))⟩
/-- the ascending one of the same numbers -/
def srt (l : List Int) : List Int := l.mergeSort (fun a b => decide (a ≤ b))
theorem srt_perm (l : List Int) : (srt l).Perm l := List.mergeSort_perm _ _
theorem srt_up (l : List Int) : (srt l).Pairwise (· ≤ ·) := by
  have := List.pairwise_mergeSort (le := fun a b : Int => decide (a ≤ b)) (fun a b c h1 h2 => by simp at *; omega) (fun a b => by simp; omega) l
  exact this.imp fun h => by simpa using h
theorem perm_up_eq : ∀ {l1 l2 : List Int}, l1.Perm l2 → l1.Pairwise (· ≤ ·) → l2.Pairwise (· ≤ ·) → l1 = l2 := by
  intro l1
  induction l1 with
  | nil => intro l2 h _ _; exact (List.nil_perm.mp h).symm
  | cons x r ih =>
    intro l2 h h1 h2
    cases l2 with
    | nil => exact absurd h.symm (by simp)
    | cons y s =>
      rw [List.pairwise_cons] at h1 h2
      have hxy : x = y := by
        have hx : x ∈ y :: s := h.subset List.mem_cons_self
        have hy : y ∈ x :: r := h.symm.subset List.mem_cons_self
        rcases List.mem_cons.mp hx with e | e
        · exact e
        · rcases List.mem_cons.mp hy with e' | e'
          · exact e'.symm
          · have := h1.1 y e'
            have := h2.1 x e
            omega
      subst hxy
      rw [ih (List.Perm.cons_inv h) h1.2 h2.2]
theorem srt_eq {l m : List Int} (h : m.Perm l) (u : m.Pairwise (· ≤ ·)) : srt l = m := perm_up_eq ((srt_perm l).trans h.symm) (srt_up l) u
theorem srt_self {l : List Int} (u : l.Pairwise (· < ·)) : srt l = l := srt_eq (List.Perm.refl _) (u.imp fun h => by omega)
theorem gn_sortL {l : List Int} (h : Gv K t σ H (.list (l.map PyData.int))) (hl : l.length < 64) : GvN K (tCB (rSorted K) (tCons t tNil)) σ H ((srt l).map PyData.int) := fun H1 s Q q => h H1 s _ fun v H2 s2 d2 => by
    obtain ⟨a, xs, rfl, hq, hr⟩ := d2.lstI
    rw [dpAll_intsV hr] at hq
    refine ⟨a, l, rfl, hq, hl, fun ns' p hp hu np => ?_⟩
    rw [← srt_eq hp hu]
    exact q _ _ _ (s2.trans (same_new np)) (s2.free np) upd_same (dpAll_ints _)
theorem gl_sortL {l : List Int} (h : Gv K t σ H (.list (l.map PyData.int))) (hl : l.length < 64) : GvL K (tCB (rSorted K) (tCons t tNil)) σ H ((srt l).map PyData.int) := (gn_sortL h hl).gl
theorem gv_sortL {l : List Int} (h : Gv K t σ H (.list (l.map PyData.int))) (hl : l.length < 64) : Gv K (tCB (rSorted K) (tCons t tNil)) σ H (.list ((srt l).map PyData.int)) :=
  gv_cb (gva_cons h gva_nil) fun vs H1 Q s hd q => by
    obtain ⟨v, rfl, hv⟩ := dpAll1 hd
    obtain ⟨a, xs, rfl, hq, hr⟩ := hv.lstI
    rw [dpAll_intsV hr] at hq
    refine ⟨a, l, rfl, hq, hl, fun ns' p hp hu np => ?_⟩
    rw [← srt_eq hp hu]
    exact q _ _ (same_new np) (.lst (.inl (.inl upd_same)) (dpAll_ints _))
theorem gv_all {l : List Bool} (h : Gv K t σ H (.list (l.map PyData.bool))) : Gv K (tCB (rAll K) (tCons t tNil)) σ H (.bool (l.all id)) :=
  gv_cb (gva_cons h gva_nil) fun vs H1 Q s hd q => by
    obtain ⟨v, rfl, hv⟩ := dpAll1 hd
    obtain ⟨a, xs, rfl, hq, hr⟩ := hv.lstI
    rw [dpAll_blsV hr] at hq
    exact ⟨a, l, rfl, hq, q _ _ (Same.refl _) (.bl _)⟩
theorem gv_any {l : List Bool} (h : Gv K t σ H (.list (l.map PyData.bool))) : Gv K (tCB (rAny K) (tCons t tNil)) σ H (.bool (l.any id)) :=
  gv_cb (gva_cons h gva_nil) fun vs H1 Q s hd q => by
    obtain ⟨v, rfl, hv⟩ := dpAll1 hd
    obtain ⟨a, xs, rfl, hq, hr⟩ := hv.lstI
    rw [dpAll_blsV hr] at hq
    exact ⟨a, l, rfl, hq, q _ _ (Same.refl _) (.bl _)⟩
theorem gv_repr {n : Nat} (h : Gv K t σ H d) (hd : Shw 60 sizeLine d) (hr : ∃ ds, d = .tuple ds ∨ d = .list ds) : Gv K (tCB (rRepr K) (tCons t tNil)) σ H (.str d.shown) :=
  gv_cb (gva_cons h gva_nil) fun vs H1 Q s hd' q => by
    obtain ⟨v, rfl, hv⟩ := dpAll1 hd'
    obtain ⟨a, rfl⟩ : ∃ a, v = V.ref a := by
      obtain ⟨ds, rfl | rfl⟩ := hr
      · obtain ⟨a, _, e, _⟩ := hv.tupI; exact ⟨a, e⟩
      · obtain ⟨a, _, e, _⟩ := hv.lstI; exact ⟨a, e⟩
    exact ⟨a, d, rfl, hv, hd.sh, hd.nd, hd.dp, hd.ln, q _ _ (Same.refl _) (.str _)⟩
/-! tests -/
theorem gvt_test (h : Gv K t σ H (.bool b)) : GvT (tTest t) σ H b := fun H1 s Q q => h H1 s _ fun v H2 s2 d2 => by cases d2; exact ⟨b, rfl, q _ s2⟩
theorem gvt_b (h : Gv K t σ H (.bool b)) : GvT (tB t) σ H b := fun H1 s Q q => h H1 s _ fun v H2 s2 d2 => by cases d2; exact ⟨b, rfl, q _ s2⟩
theorem gvt_not (h : GvT tt σ H b) : GvT (tNot tt) σ H (!b) := fun H1 s Q q => h H1 s _ fun H2 s2 => q _ s2
theorem gvt_yes : GvT tYes σ H true := fun H1 s Q q => q H1 (Same.refl _)
theorem gvt_and (h : GvT tt σ H b) (g : ∀ H', Same H H' → b = true → GvT uu σ H' c) : GvT (tAnd tt uu) σ H (b && c) := fun H1 s Q q => h H1 s _ fun H2 s2 => by
  cases b with
  | true => rw [if_pos rfl]; exact g H2 (s.trans s2) rfl H2 (Same.refl _) _ fun H3 s3 => q _ (s2.trans s3)
  | false => rw [if_neg Bool.false_ne_true]; exact q _ s2
theorem gvt_or (h : GvT tt σ H b) (g : ∀ H', Same H H' → b = false → GvT uu σ H' c) : GvT (tOr tt uu) σ H (b || c) := fun H1 s Q q => h H1 s _ fun H2 s2 => by
  cases b with
  | true => rw [if_pos rfl]; exact q _ s2
  | false => rw [if_neg Bool.false_ne_true]; exact g H2 (s.trans s2) rfl H2 (Same.refl _) _ fun H3 s3 => q _ (s2.trans s3)
theorem gv_if (h : GvT tt σ H b) (h1 : b = true → Gv K ta σ H d) (h2 : b = false → Gv K tb σ H e) : Gv K (tIf tt ta tb) σ H (if b then d else e) := fun H1 s Q q => h H1 s _ fun H2 s2 => by
  cases b with
  | true => rw [if_pos rfl]; exact h1 rfl H2 (s.trans s2) _ fun v H3 s3 d3 => q v H3 (s2.trans s3) d3
  | false => rw [if_neg Bool.false_ne_true]; exact h2 rfl H2 (s.trans s2) _ fun v H3 s3 d3 => q v H3 (s2.trans s3) d3
/-! calls -/
/-- a def that only computes -/
def spP (K : PySem.W.Frag) {α : Type} (δ : α → List PyData) (C : α → Prop) (f : α → PyData) : Sp := fun vs H Q _ => ∃ a, DpAll K H vs (δ a) ∧ C a ∧ ∀ v H', Same H H' → Dp K H' v (f a) → Q v H'
theorem gv_call {α : Type} {δ : α → List PyData} {C : α → Prop} {f : α → PyData} {E : XK} (a : α) (h : GvA K ta' σ H (δ a)) (hc : C a) : Gv K (tCall (spP K δ C f) [] E ta') σ H (f a) := fun H1 s Q q =>
  h H1 s _ fun vs H2 s2 d2 => ⟨a, by rw [List.append_nil]; exact d2, hc, fun v H3 s3 d3 => q v H3 (s2.trans s3) d3⟩
end
/-! ### walks -/
section
variable {K : PySem.W.Frag} {R : Hp → Hp → Prop} {σ : L2.St} {H : Hp} {t : TE} {ta : TA} {ds : List PyData}
theorem gvi_list (h : Gv K t σ H (.list ds)) : GvI K Same (iList K t) σ H ds := fun H1 s Q q => h H1 s _ fun v H2 s2 d2 => by
  obtain ⟨a, xs, rfl, hq, hr⟩ := d2.lstI
  refine ⟨a, rfl, ⟨xs, hq⟩, q _ H2 s2 ?_⟩
  rw [← hr.length]
  refine walk_list.mono (fun h e => e.seq hq) fun i h x h' hi e y => ?_
  obtain ⟨rfl, y⟩ := y
  have hi' : i < ds.length := by rw [← hr.length]; exact hi
  obtain ⟨v, hv, dv⟩ := hr.get i ds[i] (List.getElem?_eq_getElem hi')
  rw [hv] at y; cases y
  exact ⟨Same.refl _, ds[i], List.getElem?_eq_getElem hi', dv.sm e⟩
theorem gvi_tup (h : Gv K t σ H (.tuple ds)) : GvI K Same (iTup K t) σ H ds := fun H1 s Q q => h H1 s _ fun v H2 s2 d2 => by
  obtain ⟨a, xs, rfl, hq, hr⟩ := d2.tupI
  refine ⟨a, rfl, ⟨xs, hq⟩, q _ H2 s2 ?_⟩
  rw [← hr.length]
  refine walk_tup.mono (fun h e => same_sqT e hq) fun i h x h' hi e y => ?_
  obtain ⟨rfl, y⟩ := y
  have hi' : i < ds.length := by rw [← hr.length]; exact hi
  obtain ⟨v, hv, dv⟩ := hr.get i ds[i] (List.getElem?_eq_getElem hi')
  rw [hv] at y; cases y
  exact ⟨Same.refl _, ds[i], List.getElem?_eq_getElem hi', dv.sm e⟩
theorem gvi_tupK (h : Gv K t σ H (.tuple ds)) (z : lfAll ds = true) : GvI K Kp (iTup K t) σ H ds := fun H1 s Q q => h H1 s _ fun v H2 s2 d2 => by
  obtain ⟨a, xs, rfl, hq, hr⟩ := d2.tupI
  refine ⟨a, rfl, ⟨xs, hq⟩, q _ H2 s2 ?_⟩
  rw [← hr.length]
  refine walk_tup.mono (fun h e => sqT_kp e hq) fun i h x h' hi e y => ?_
  obtain ⟨rfl, y⟩ := y
  have hi' : i < ds.length := by rw [← hr.length]; exact hi
  obtain ⟨v, hv, dv⟩ := (dpAll_kp e _ _ z hr).get i ds[i] (List.getElem?_eq_getElem hi')
  rw [hv] at y; cases y
  exact ⟨Same.refl _, ds[i], List.getElem?_eq_getElem hi', dv⟩
theorem gvi_range {n : Nat} (h : Gv K t σ H (.int n)) (hn : n < 2 ^ 62) : GvI K R (iRng1 (tCons t tNil)) σ H ((List.range n).map fun i : Nat => PyData.int (i : Int)) := fun H1 s Q q => h H1 s _ fun v H2 s2 d2 => by
  cases d2
  refine ⟨(n : Int), rfl, by omega, by omega, q _ H2 s2 ?_⟩
  rw [List.length_map, List.length_range, Int.toNat_natCast]
  refine walk_range.mono (fun _ _ => trivial) fun i h x h' hi e y => ?_
  obtain ⟨rfl, rfl⟩ := y
  refine ⟨Same.refl _, .int (i : Int), ?_, ?_⟩
  · rw [List.getElem?_map, List.getElem?_range hi]; rfl
  · dsimp only; rw [Int.zero_add]; exact .int _
theorem gvi_range2 {lo n : Nat} {t2 : TE} (h1 : Gv K t σ H (.int lo)) (h2 : Gv K t2 σ H (.int n)) (hl : lo < 2 ^ 62) (hn : n < 2 ^ 62) : GvI K R (iRng2 (tCons t (tCons t2 tNil))) σ H ((List.range (n - lo)).map fun i : Nat => PyData.int ((lo + i : Nat) : Int)) := fun H1 s Q q =>
  gva_cons h1 (gva_cons h2 gva_nil) H1 s _ fun vs H2 s2 d2 => by
  obtain ⟨v, u, rfl, dv, du⟩ := dpAll2 d2
  cases dv; cases du
  refine ⟨(lo : Int), (n : Int), rfl, ⟨by omega, by omega, by omega, by omega⟩, q _ H2 s2 ?_⟩
  rw [List.length_map, List.length_range, show ((n : Int) - (lo : Int)).toNat = n - lo by omega]
  refine walk_range.mono (fun _ _ => trivial) fun i h x h' hi e y => ?_
  obtain ⟨rfl, rfl⟩ := y
  refine ⟨Same.refl _, .int ((lo + i : Nat) : Int), ?_, ?_⟩
  · rw [List.getElem?_map, List.getElem?_range hi]; rfl
  · dsimp only; rw [show (lo : Int) + (i : Int) = ((lo + i : Nat) : Int) by omega]; exact .int _
theorem gvi_enumT {α : Type} {δ : α → PyData} {as : List α} (h : Gv K t σ H (.tuple (as.map δ))) : GvI K Same (iEnumT K (tCons t tNil)) σ H (as.zipIdx.map fun x => .tuple [.int (x.2 : Nat), δ x.1]) := fun H1 s Q q => h H1 s _ fun v H2 s2 d2 => by
  obtain ⟨a, xs, rfl, hq, hr⟩ := d2.tupI
  refine ⟨a, xs, rfl, hq, q _ H2 s2 ?_⟩
  have hl : xs.length = as.length := by rw [hr.length, List.length_map]
  rw [List.length_map, List.length_zipIdx, ← hl]
  refine walk_enumT.mono (fun h e => same_sqT e hq) fun i h x h' hi e y => ?_
  obtain ⟨T, x1, x2, rfl, nT, rfl, e1, e2⟩ := y
  cases e1
  have hi' : i < as.length := by omega
  obtain ⟨v, hv, dv⟩ := hr.get i (δ as[i]) (by rw [List.getElem?_map, List.getElem?_eq_getElem hi']; rfl)
  replace e2 : xs[i]? = some x2 := e2
  rw [hv] at e2; cases e2
  have sT : Same h (upd h T (.tup [.int (i : Nat), x2])) := same_new nT
  refine ⟨sT, .tuple [.int (i : Nat), δ as[i]], ?_, .tup (.inl (.inl upd_same)) (.cons (.int _) (.cons ((dv.sm e).sm sT) .nil))⟩
  rw [List.getElem?_map, List.getElem?_zipIdx, List.getElem?_eq_getElem hi']
  simp
theorem gvi_enumTK {α : Type} {δ : α → PyData} {as : List α} (h : Gv K t σ H (.tuple (as.map δ))) (z : ∀ a ∈ as, lf (δ a) = true) : GvI K Kp (iEnumT K (tCons t tNil)) σ H (as.zipIdx.map fun x => .tuple [.int (x.2 : Nat), δ x.1]) := fun H1 s Q q => h H1 s _ fun v H2 s2 d2 => by
  obtain ⟨a, xs, rfl, hq, hr⟩ := d2.tupI
  refine ⟨a, xs, rfl, hq, q _ H2 s2 ?_⟩
  have hl : xs.length = as.length := by rw [hr.length, List.length_map]
  rw [List.length_map, List.length_zipIdx, ← hl]
  refine walk_enumT.mono (fun h e => sqT_kp e hq) fun i h x h' hi e y => ?_
  obtain ⟨T, x1, x2, rfl, nT, rfl, e1, e2⟩ := y
  cases e1
  have hi' : i < as.length := by omega
  obtain ⟨v, hv, dv⟩ := hr.get i (δ as[i]) (by rw [List.getElem?_map, List.getElem?_eq_getElem hi']; rfl)
  replace e2 : xs[i]? = some x2 := e2
  rw [hv] at e2; cases e2
  have sT : Same h (upd h T (.tup [.int (i : Nat), x2])) := same_new nT
  refine ⟨sT, .tuple [.int (i : Nat), δ as[i]], ?_, .tup (.inl (.inl upd_same)) (.cons (.int _) (.cons ((dv.kp e (z _ (List.getElem_mem _))).sm sT) .nil))⟩
  rw [List.getElem?_map, List.getElem?_zipIdx, List.getElem?_eq_getElem hi']
  simp
/-- what a comprehension has gathered when D is the new list -/
def LcP (K : PySem.W.Frag) (H1 : Hp) (D : Addr) (ds : Nat → List PyData) (k : Nat) (H2 : Hp) : Prop := (∀ b o, b ≠ D → H1 b = some o → H2 b = some o) ∧ ∃ acc, H2 D = some (.lst acc) ∧ DpAll K H2 acc (ds k) ∧ acc.length ≤ k
theorem lcP_yes {H1 H5 H2 : Hp} {D : Addr} {ds : Nat → List PyData} {k : Nat} {acc : List V} {y : V} {d : PyData} (h : ∀ b o, b ≠ D → H1 b = some o → H2 b = some o) (s25 : Same H2 H5) (eD : H2 D = some (.lst acc)) (ha : DpAll K H2 acc (ds k)) (la : acc.length ≤ k) (dy : Dp K H5 y d)
    (e : ds (k + 1) = ds k ++ [d]) (z : lfAll (ds (k + 1)) = true) : LcP K H1 D ds (k + 1) (upd H5 D (.lst (acc ++ [y]))) := by
  refine ⟨fun b o hb q => by rw [upd_ne hb]; exact s25 _ _ (h b o hb q), acc ++ [y], upd_same, ?_, by rw [List.length_append]; show acc.length + 1 ≤ k + 1; omega⟩
  refine dpAll_kp (Kp.upd (s25 _ _ eD)) _ _ z ?_
  rw [e]
  exact DpAll.append (ha.sm s25) (.cons dy .nil)
theorem lcP_no {H1 H3 H2 : Hp} {D : Addr} {ds : Nat → List PyData} {k : Nat} {acc : List V} (h : ∀ b o, b ≠ D → H1 b = some o → H2 b = some o) (s23 : Same H2 H3) (eD : H2 D = some (.lst acc)) (ha : DpAll K H2 acc (ds k)) (la : acc.length ≤ k)
    (e : ds (k + 1) = ds k) : LcP K H1 D ds (k + 1) H3 :=
  ⟨fun b o hb q => s23 _ _ (h b o hb q), acc, s23 _ _ eD, by rw [e]; exact ha.sm s23, by omega⟩
theorem fil_take {α : Type} {as : List α} {p : α → Bool} {f : α → PyData} {k : Nat} (hk : k < as.length) : (((as.take (k + 1)).filter p).map f) = ((as.take k).filter p).map f ++ if p as[k] then [f as[k]] else [] := by
  rw [List.take_add_one, List.getElem?_eq_getElem hk, Option.toList_some, List.filter_append, List.map_append]
  cases h : p as[k] with
  | true => rw [List.filter_cons_of_pos h]; rfl
  | false => rw [List.filter_cons_of_neg (by rw [h]; exact Bool.false_ne_true)]; rfl
theorem lf_fil {α : Type} {as : List α} {p : α → Bool} {f : α → PyData} (h : ∀ a ∈ as, lf (f a) = true) (k : Nat) : lfAll (((as.take k).filter p).map f) = true := lfAll_of fun d hd => by
  obtain ⟨a, ha, rfl⟩ := List.mem_map.mp hd
  exact h a (List.mem_of_mem_take (List.mem_filter.mp ha).1)
/-- a comprehension, its target one name -/
theorem gn_lc {wi : TI} {tt : TT} {te : TE} {i : Nat} {α : Type} {δ : α → PyData} {as : List α} {p : α → Bool} {f : α → PyData} (hI : GvI K Same wi σ H (as.map δ))
    (hb : ∀ a v H1, a ∈ as → Same H H1 → Dp K H1 v (δ a) → GvT tt ((σ.set i none).set i (some v)) H1 (p a) ∧ (p a = true → Gv K te ((σ.set i none).set i (some v)) H1 (f a)))
    (hf : ∀ a ∈ as, lf (f a) = true) (hn : as.length ≤ 100000) : GvN K (tLc wi (gName i) tt te [i]) σ H ((as.filter p).map f) := by
  intro H0 s0 Q q
  refine hI H0 s0 _ fun J H1 s1 w D nD => ?_
  rw [List.length_map] at w
  refine lc_it w (LcP K H1 D fun k => ((as.take k).filter p).map f) ⟨fun b o hb e => by rw [upd_ne hb]; exact e, [], upd_same, .nil, Nat.zero_le _⟩ (fun k H2 _ hP b o e => hP.1 b o (ne_of_none e nD) e) (fun k x H2 H3 hk hP hY => ?_) (fun H2 hP => ?_)
  · obtain ⟨s2, acc, eD, hacc, la⟩ := hP
    obtain ⟨s3, d, hd, dx⟩ := hY
    rw [List.getElem?_map, List.getElem?_eq_getElem hk] at hd
    cases hd
    have sH : Same H H3 := (s0.trans s1).trans fun b o e => s3 _ _ (s2 b o (ne_of_none e nD) e)
    obtain ⟨g1, g2⟩ := hb as[k] x H3 (List.getElem_mem _) sH dx
    refine ⟨by show ((σ.set i none).set i (some x)).set i none = σ.set i none; rw [List.set_set, List.set_set], g1.at fun H4 s4 => ?_⟩
    cases hp : p as[k] with
    | true =>
      rw [if_pos rfl]
      refine (g2 hp).sm s4 |>.at fun y H5 s5 dy => ⟨acc, s5 _ _ (s4 _ _ (s3 _ _ eD)), small5 (by omega), ?_⟩
      exact lcP_yes s2 ((s3.trans s4).trans s5) eD hacc la dy (by rw [fil_take hk, hp]; rfl) (lf_fil hf _)
    | false =>
      rw [if_neg Bool.false_ne_true]
      exact lcP_no s2 (s3.trans s4) eD hacc la (by rw [fil_take hk, hp]; exact List.append_nil _)
  · obtain ⟨s2, acc, eD, hacc, la⟩ := hP
    replace hacc : DpAll K H2 acc (((as.take as.length).filter p).map f) := hacc
    rw [List.take_length] at hacc
    exact q _ _ H2 (s1.trans fun b o e => s2 b o (ne_of_none e nD) e) (s1.free nD) eD hacc
theorem gl_lc {wi : TI} {tt : TT} {te : TE} {i : Nat} {α : Type} {δ : α → PyData} {as : List α} {p : α → Bool} {f : α → PyData} (hI : GvI K Same wi σ H (as.map δ))
    (hb : ∀ a v H1, a ∈ as → Same H H1 → Dp K H1 v (δ a) → GvT tt ((σ.set i none).set i (some v)) H1 (p a) ∧ (p a = true → Gv K te ((σ.set i none).set i (some v)) H1 (f a)))
    (hf : ∀ a ∈ as, lf (f a) = true) (hn : as.length ≤ 100000) : GvL K (tLc wi (gName i) tt te [i]) σ H ((as.filter p).map f) := (gn_lc hI hb hf hn).gl
theorem gv_lc {wi : TI} {tt : TT} {te : TE} {i : Nat} {α : Type} {δ : α → PyData} {as : List α} {p : α → Bool} {f : α → PyData} (hI : GvI K Same wi σ H (as.map δ))
    (hb : ∀ a v H1, a ∈ as → Same H H1 → Dp K H1 v (δ a) → GvT tt ((σ.set i none).set i (some v)) H1 (p a) ∧ (p a = true → Gv K te ((σ.set i none).set i (some v)) H1 (f a)))
    (hf : ∀ a ∈ as, lf (f a) = true) (hn : as.length ≤ 100000) : Gv K (tLc wi (gName i) tt te [i]) σ H (.list ((as.filter p).map f)) := (gl_lc hI hb hf hn).gv
theorem set_two {i j : Nat} (σ : L2.St) (v u : V) : (((((σ.set j none).set i none).set i (some v)).set j (some u)).set j none).set i none = (σ.set j none).set i none := by
  refine List.ext_getElem? fun k => ?_
  simp only [List.getElem?_set, List.length_set]
  split <;> split <;> (try split) <;> simp_all
/-- the same, its target two names -/
theorem gn_lc2 {wi : TI} {tt : TT} {te : TE} {i j : Nat} {α : Type} {δ1 δ2 : α → PyData} {as : List α} {p : α → Bool} {f : α → PyData} (hI : GvI K Same wi σ H (as.map fun a => .tuple [δ1 a, δ2 a]))
    (hb : ∀ a v u H1, a ∈ as → Same H H1 → Dp K H1 v (δ1 a) → Dp K H1 u (δ2 a) → GvT tt ((((σ.set j none).set i none).set i (some v)).set j (some u)) H1 (p a) ∧ (p a = true → Gv K te ((((σ.set j none).set i none).set i (some v)).set j (some u)) H1 (f a)))
    (hf : ∀ a ∈ as, lf (f a) = true) (hn : as.length ≤ 100000) (hij : i ≠ j) : GvN K (tLc wi (gTup K 2 (gCons (gName i) (gCons (gName j) gNil))) tt te [i, j]) σ H ((as.filter p).map f) := by
  intro H0 s0 Q q
  refine hI H0 s0 _ fun J H1 s1 w D nD => ?_
  rw [List.length_map] at w
  refine lc_it w (LcP K H1 D fun k => ((as.take k).filter p).map f) ⟨fun b o hb e => by rw [upd_ne hb]; exact e, [], upd_same, .nil, Nat.zero_le _⟩ (fun k H2 _ hP b o e => hP.1 b o (ne_of_none e nD) e) (fun k x H2 H3 hk hP hY => ?_) (fun H2 hP => ?_)
  · obtain ⟨s2, acc, eD, hacc, la⟩ := hP
    obtain ⟨s3, d, hd, dx⟩ := hY
    rw [List.getElem?_map, List.getElem?_eq_getElem hk] at hd
    cases hd
    have sH : Same H H3 := (s0.trans s1).trans fun b o e => s3 _ _ (s2 b o (ne_of_none e nD) e)
    obtain ⟨T, xs, rfl, hT, hr⟩ := dx.tupI
    obtain ⟨v, u, rfl, dv, du⟩ := dpAll2 hr
    obtain ⟨g1, g2⟩ := hb as[k] v u H3 (List.getElem_mem _) sH dv du
    refine ⟨T, [v, u], rfl, hT, rfl, v, [u], rfl, u, [], rfl, rfl, ?_, g1.at fun H4 s4 => ?_⟩
    · show (((((σ.set j none).set i none).set i (some v)).set j (some u)).set j none).set i none = (σ.set j none).set i none
      exact set_two _ _ _
    cases hp : p as[k] with
    | true =>
      rw [if_pos rfl]
      refine (g2 hp).sm s4 |>.at fun y H5 s5 dy => ⟨acc, s5 _ _ (s4 _ _ (s3 _ _ eD)), small5 (by omega), ?_⟩
      exact lcP_yes s2 ((s3.trans s4).trans s5) eD hacc la dy (by rw [fil_take hk, hp]; rfl) (lf_fil hf _)
    | false =>
      rw [if_neg Bool.false_ne_true]
      exact lcP_no s2 (s3.trans s4) eD hacc la (by rw [fil_take hk, hp]; exact List.append_nil _)
  · obtain ⟨s2, acc, eD, hacc, la⟩ := hP
    replace hacc : DpAll K H2 acc (((as.take as.length).filter p).map f) := hacc
    rw [List.take_length] at hacc
    exact q _ _ H2 (s1.trans fun b o e => s2 b o (ne_of_none e nD) e) (s1.free nD) eD hacc
theorem gl_lc2 {wi : TI} {tt : TT} {te : TE} {i j : Nat} {α : Type} {δ1 δ2 : α → PyData} {as : List α} {p : α → Bool} {f : α → PyData} (hI : GvI K Same wi σ H (as.map fun a => .tuple [δ1 a, δ2 a]))
    (hb : ∀ a v u H1, a ∈ as → Same H H1 → Dp K H1 v (δ1 a) → Dp K H1 u (δ2 a) → GvT tt ((((σ.set j none).set i none).set i (some v)).set j (some u)) H1 (p a) ∧ (p a = true → Gv K te ((((σ.set j none).set i none).set i (some v)).set j (some u)) H1 (f a)))
    (hf : ∀ a ∈ as, lf (f a) = true) (hn : as.length ≤ 100000) (hij : i ≠ j) : GvL K (tLc wi (gTup K 2 (gCons (gName i) (gCons (gName j) gNil))) tt te [i, j]) σ H ((as.filter p).map f) := (gn_lc2 hI hb hf hn hij).gl
theorem gv_lc2 {wi : TI} {tt : TT} {te : TE} {i j : Nat} {α : Type} {δ1 δ2 : α → PyData} {as : List α} {p : α → Bool} {f : α → PyData} (hI : GvI K Same wi σ H (as.map fun a => .tuple [δ1 a, δ2 a]))
    (hb : ∀ a v u H1, a ∈ as → Same H H1 → Dp K H1 v (δ1 a) → Dp K H1 u (δ2 a) → GvT tt ((((σ.set j none).set i none).set i (some v)).set j (some u)) H1 (p a) ∧ (p a = true → Gv K te ((((σ.set j none).set i none).set i (some v)).set j (some u)) H1 (f a)))
    (hf : ∀ a ∈ as, lf (f a) = true) (hn : as.length ≤ 100000) (hij : i ≠ j) : Gv K (tLc wi (gTup K 2 (gCons (gName i) (gCons (gName j) gNil))) tt te [i, j]) σ H (.list ((as.filter p).map f)) := (gl_lc2 hI hb hf hn hij).gv
/-! ### statements -/
theorem gs_set {t : TE} {i : Nat} {d : PyData} {D : Ends} (h : Gv K t σ H d) (q : ∀ v H', Same H H' → Dp K H' v d → D.nx (σ.set i (some v)) H') : tAsg t (gName i) D σ H := h.at fun v H' s dv => q v H' s dv
theorem gs_ret {t : TE} {d : PyData} {D : Ends} (h : Gv K t σ H d) (q : ∀ v H', Same H H' → Dp K H' v d → D.rt v H') : tRet t D σ H := h.at q
theorem gs_if {c : TT} {b : Bool} {t u : TS} {D : Ends} (h : GvT c σ H b) (h1 : b = true → ∀ H', Same H H' → t D σ H') (h2 : b = false → ∀ H', Same H H' → u D σ H') : tIfS c t u D σ H := h.at fun H' s => by
  cases b with
  | true => rw [if_pos rfl]; exact h1 rfl H' s
  | false => rw [if_neg Bool.false_ne_true]; exact h2 rfl H' s
/-- a loop: Pv by the heap at its start, the turn, the slots and the heap -/
theorem gs_for {wi : TI} {g : TG} {tb : TS} {D : Ends} {ds : List PyData} (hI : GvI K R wi σ H ds) (Pv : Hp → Nat → L2.St → Hp → Prop) (h0 : ∀ H1, Same H H1 → Pv H1 0 σ H1) (hS : ∀ H1 k σ' H', Same H H1 → Pv H1 k σ' H' → R H1 H')
    (hs : ∀ H1 k x d σ' H' H'', Same H H1 → ds[k]? = some d → Pv H1 k σ' H' → Same H' H'' → Dp K H'' x d → g x σ' H'' fun σ2 H2 => tb { D with nx := Pv H1 (k + 1), ct := Pv H1 (k + 1), bk := D.nx } σ2 H2)
    (hd : ∀ H1 σ' H', Same H H1 → Pv H1 ds.length σ' H' → D.nx σ' H') : tFor wi g tb D σ H := by
  refine hI H (Same.refl _) _ fun J H1 s1 w => ?_
  refine for_it w (Pv H1) (h0 H1 s1) (fun k σ' H' _ hP => hS H1 k σ' H' s1 hP) (fun k x σ' H' H'' hk hP hY => ?_) (fun σ' H' hP => hd H1 σ' H' s1 hP)
  obtain ⟨s3, d, hd', dx⟩ := hY
  exact hs H1 k x d σ' H' H'' s1 hd' hP s3 dx
end
end Pr
/-! More rules and what they give. -/
namespace Pr
open PySem PySem.Spec PyProof.Rows L2
/-! ### xs[::-1] of a list -/
theorem pick_backL (l : List Value) : slicePick l.toArray none none (some (-1)) = l.reverse.toArray := by
  unfold slicePick
  have e : sliceBounds none none (some (-1)) l.toArray.size = ((l.length : Int) - 1, -1, -1) := by
    unfold sliceBounds
    simp
  rw [e]
  unfold sliceRange
  dsimp only
  rw [if_neg (by decide)]
  have hc : (if (l.length : Int) - 1 > -1 then ((l.length : Int) - 1 - -1 - -1 - 1) / (- -1) else 0) = (l.length : Int) := by
    split
    · simp only [Int.neg_neg, Int.ediv_one]; omega
    · omega
  rw [hc, Int.toNat_natCast, List.filterMap_map]
  have := pick_back l
  have e2 : ((fun x => l.toArray[x]?) ∘ fun (k : Nat) => ((l.length : Int) - 1 + -1 * (k : Int)).toNat) = fun (k : Nat) => l[(((l.length : Int) - 1) + (k : Int) * (-1)).toNat]? := by
    funext k
    show l.toArray[((l.length : Int) - 1 + -1 * (k : Int)).toNat]? = _
    rw [List.getElem?_toArray, show -1 * (k : Int) = (k : Int) * -1 by omega]
  rw [e2, this]
section
variable {X : Cx}
def tRevL (K : PySem.W.Frag) (te : TE) : TE := fun σ H Q => te σ H fun x H1 => ∃ a xs, x = .ref a ∧ SqL K H1 a xs ∧ ∀ p, H1 p = none → Q (.ref p) (upd H1 p (.lst xs.reverse))
theorem pe_revL {e : Expr} {te : TE} {k : Nat} {p1 p2 p3 pos : Pos} (he : PE X e te) : PE X (.Subscript e (.Slice none none (some (.UnaryOp .USub (.Constant (.int 1) k p1) p2)) p3) pos) (tRevL X.K te) := by
  refine ⟨fun pins s σ H Q I h => Subscript_ (thn (he.run pins s σ H _ I h) fun v s1 ⟨x, H1, I1, r1, a, xs, ex, hx, q⟩ => ?_)⟩
  subst ex
  cases r1
  have hst : PO X (some (.UnaryOp .USub (.Constant (.int 1) k p1) p2)) (tPart (tUn (rU fun i => .int (-i)) (tC (.int 1)))) := po_some (pe_un un_neg pe_int)
  refine wpAny_Slice (thn (po_none.run pins s1 σ H1 (fun o H2 => o = none ∧ H2 = H1) I1 ⟨rfl, rfl⟩) fun vl s2 ⟨l, H2, I2, pl, el, e2⟩ => ?_)
  subst el e2
  refine thn (po_none.run pins s2 σ H2 (fun o H3 => o = none ∧ H3 = H2) I2 ⟨rfl, rfl⟩) fun vu s3 ⟨u, H3, I3, pu, eu, e3⟩ => ?_
  subst eu e3
  refine thn (hst.run pins s3 σ H3 (fun o H4 => o = some (-1) ∧ H4 = H3) I3 ⟨1, rfl, -1, rfl, rfl, rfl⟩) fun vs s4 ⟨o, H4, I4, ps, eo, e4⟩ => ?_
  subst eo e4
  cases pl
  cases pu
  have I5 : Inv X pins σ H4 { s4 with heap := s4.heap.push { cls := .type "slice", data := .fields #[.none, .none, vs] } } := I4.kept (t' := s4.toks) fun b ob q => Heap.get?_push_of_some _ q
  obtain ⟨its, r, ht, hz⟩ := I5.list hx
  have hlen := r.length
  show wpAny (model X.prog X.w) X.A (subscriptTail e (.Slice none none (some (.UnaryOp .USub (.Constant (.int 1) k p1) p2)) p3) (.ref a) (.ref s4.heap.objs.size)) (EP X pins σ Q) X.xe { s4 with heap := s4.heap.push { cls := .type "slice", data := .fields #[.none, .none, vs] } }
  refine tail_any (ops := [.ref a, .ref s4.heap.objs.size]) ht.isList.typeIs (slot_list_getitem.lookup) ?_ (by with_unfolding_all rfl)
  refine wpAny_getItem_list_slice ht.isList (Heap.IsSliceOf.new _ .none .none vs) .none .none ps (by decide) ?_ (by rw [List.size_toArray]; omega)
  rw [pick_backL]
  refine ⟨.ref _, _, I5.laid (t' := s4.toks) (o := .lst xs.reverse) (fun b ob q => Heap.get?_push_of_some _ q) (Nat.le_refl _) ?_, rfl, q _ (I5.hok.fresh (Nat.le_refl _))⟩
  exact ⟨by rw [List.length_reverse]; exact hz, _, 0, r.reverse, Heap.get?_push_size _ rfl⟩
end
section
variable {K : PySem.W.Frag} {σ : L2.St} {H : Hp} {t ta tb : TE} {d e : PyData} {ds es : List PyData}
theorem dpAll_set {K : PySem.W.Frag} {H : Hp} {v : V} {d : PyData} (hd : Dp K H v d) : ∀ {vs : List V} {ds : List PyData} (i : Nat), DpAll K H vs ds → DpAll K H (vs.set i v) (ds.set i d)
  | [], [], _, .nil => .nil
  | _ :: _, _ :: _, 0, .cons _ t => .cons hd t
  | _ :: _, _ :: _, i + 1, .cons q t => .cons q (dpAll_set hd i t)
theorem gs_if1 {c : TT} {b : Bool} {t u : TS} {D : Ends} (h : GvT c σ H b) (h1 : b = true → ∀ H', Same H H' → t { D with nx := u D } σ H') (h2 : b = false → ∀ H', Same H H' → u D σ H') : tSeq (tIfS c t tNext) u D σ H := gs_if h h1 h2
theorem gs_set1 {i : Nat} {u : TS} {D : Ends} (h : Gv K t σ H d) (q : ∀ v H', Same H H' → Dp K H' v d → u D (σ.set i (some v)) H') : tSeq (tAsg t (gName i)) u D σ H := h.at fun v H' s dv => q v H' s dv
/-- a test that comes out false, what stands under it not reached -/
theorem gs_no {c : TT} {t u : TS} {D : Ends} {b : Bool} (h : GvT c σ H b) (hb : b = false) (h2 : ∀ H', Same H H' → u D σ H') : tSeq (tIfS c t tNext) u D σ H := gs_if h (fun e => by rw [hb] at e; cases e) fun _ => h2
theorem gs_noN {c : TT} {t : TS} {D : Ends} {b : Bool} (h : GvT c σ H b) (hb : b = false) (h2 : ∀ H', Same H H' → D.nx σ H') : tIfS c t tNext D σ H := gs_if h (fun e => by rw [hb] at e; cases e) fun _ => h2
/-- for i in range(n) -/
theorem gs_range {n i : Nat} {tb : TS} {D : Ends} (h : Gv K t σ H (.int n)) (hn : n < 2 ^ 62) (Pv : Hp → Nat → L2.St → Hp → Prop) (h0 : ∀ H1, Same H H1 → Pv H1 0 σ H1)
    (hs : ∀ H1 k σ' H', Same H H1 → k < n → Pv H1 k σ' H' → tb { D with nx := Pv H1 (k + 1), ct := Pv H1 (k + 1), bk := D.nx } (σ'.set i (some (.int (k : Int)))) H')
    (hd : ∀ H1 σ' H', Same H H1 → Pv H1 n σ' H' → D.nx σ' H') : tFor (iRng1 (tCons t tNil)) (gName i) tb D σ H := by
  refine h.at fun v H1 s1 d1 => ?_
  cases d1
  refine ⟨(n : Int), rfl, by omega, by omega, ?_⟩
  rw [Int.toNat_natCast]
  refine for_range (Pv H1) (h0 H1 s1) (fun k σ' H' hk hP => ?_) (fun σ' H' hP => hd H1 σ' H' s1 hP)
  rw [Int.zero_add]
  exact hs H1 k σ' H' s1 hk hP
/-- for x in a list or a tuple -/
theorem gs_each {i : Nat} {tb : TS} {D : Ends} {R : Hp → Hp → Prop} {wi : TI} {α : Type} {δ : α → PyData} {as : List α} (hI : GvI K R wi σ H (as.map δ)) (Pv : Hp → Nat → L2.St → Hp → Prop) (h0 : ∀ H1, Same H H1 → Pv H1 0 σ H1) (hS : ∀ H1 k σ' H', Same H H1 → Pv H1 k σ' H' → R H1 H')
    (hs : ∀ H1 k a v σ' H' H'', Same H H1 → as[k]? = some a → Pv H1 k σ' H' → Same H' H'' → Dp K H'' v (δ a) → tb { D with nx := Pv H1 (k + 1), ct := Pv H1 (k + 1), bk := D.nx } (σ'.set i (some v)) H'')
    (hd : ∀ H1 σ' H', Same H H1 → Pv H1 as.length σ' H' → D.nx σ' H') : tFor wi (gName i) tb D σ H := by
  refine gs_for hI Pv h0 hS (fun H1 k x d σ' H' H'' s1 hd' hP s2 dx => ?_) (fun H1 σ' H' s1 hP => hd H1 σ' H' s1 (by rwa [List.length_map] at hP))
  rw [List.getElem?_map] at hd'
  cases e : as[k]? with
  | none => rw [e] at hd'; cases hd'
  | some a => rw [e] at hd'; cases hd'; exact hs H1 k a x σ' H' H'' s1 e hP s2 dx
/-- for a, b in pairs -/
theorem gs_each2 {i j : Nat} {tb : TS} {D : Ends} {R : Hp → Hp → Prop} {wi : TI} {α : Type} {δ1 δ2 : α → PyData} {as : List α} (hI : GvI K R wi σ H (as.map fun a => .tuple [δ1 a, δ2 a])) (Pv : Hp → Nat → L2.St → Hp → Prop) (h0 : ∀ H1, Same H H1 → Pv H1 0 σ H1) (hS : ∀ H1 k σ' H', Same H H1 → Pv H1 k σ' H' → R H1 H')
    (hs : ∀ H1 k a v u σ' H' H'', Same H H1 → as[k]? = some a → Pv H1 k σ' H' → Same H' H'' → Dp K H'' v (δ1 a) → Dp K H'' u (δ2 a) → tb { D with nx := Pv H1 (k + 1), ct := Pv H1 (k + 1), bk := D.nx } ((σ'.set i (some v)).set j (some u)) H'')
    (hd : ∀ H1 σ' H', Same H H1 → Pv H1 as.length σ' H' → D.nx σ' H') : tFor wi (gTup K 2 (gCons (gName i) (gCons (gName j) gNil))) tb D σ H := by
  refine gs_for hI Pv h0 hS (fun H1 k x d σ' H' H'' s1 hd' hP s2 dx => ?_) (fun H1 σ' H' s1 hP => hd H1 σ' H' s1 (by rwa [List.length_map] at hP))
  rw [List.getElem?_map] at hd'
  cases e : as[k]? with
  | none => rw [e] at hd'; cases hd'
  | some a =>
    rw [e] at hd'; cases hd'
    obtain ⟨T, xs, rfl, hT, hr⟩ := dx.tupI
    obtain ⟨v, u, rfl, dv, du⟩ := dpAll2 hr
    exact ⟨T, [v, u], rfl, hT, rfl, v, [u], rfl, u, [], rfl, rfl, hs H1 k a v u σ' H' H'' s1 e hP s2 dv du⟩
theorem gv_un {r : V → Hp → VK → Prop} (h : Gv K t σ H d) {f : PyData} (hr : ∀ x H1 Q, Same H H1 → Dp K H1 x d → (∀ v H', Same H1 H' → Dp K H' v f → Q v H') → r x H1 Q) : Gv K (tUn r t) σ H f := fun H1 s Q q =>
  h H1 s _ fun v H2 s2 d2 => hr v H2 Q (s.trans s2) d2 fun v H3 s3 d3 => q v H3 (s2.trans s3) d3
theorem gv_neg {i : Int} (h : Gv K t σ H (.int i)) : Gv K (tUn (rU fun i => .int (-i)) t) σ H (.int (-i)) := gv_un h fun x H1 Q s hx q => by cases hx; exact ⟨i, rfl, q _ _ (Same.refl _) (.int _)⟩
theorem gn_revL (h : Gv K t σ H (.list ds)) : GvN K (tRevL K t) σ H ds.reverse := fun H1 s Q q => h H1 s _ fun v H2 s2 d2 => by
  obtain ⟨a, xs, rfl, hq, hr⟩ := d2.lstI
  exact ⟨a, xs, rfl, hq, fun p np => q _ _ _ (s2.trans (same_new np)) (s2.free np) upd_same (hr.reverse.sm (same_new np))⟩
theorem gl_revL (h : Gv K t σ H (.list ds)) : GvL K (tRevL K t) σ H ds.reverse := (gn_revL h).gl
theorem gn_cat (ha : GvL K ta σ H ds) (hb : GvL K tb σ H es) (hn : ds.length + es.length ≤ 100000) : GvN K (tOp rCat ta tb) σ H (ds ++ es) := fun H1 s Q q =>
  ha H1 s _ fun a xs H2 s2 ea da => hb H2 (s.trans s2) _ fun b ys H3 s3 eb db =>
    ⟨a, b, xs, ys, rfl, rfl, s3 _ _ ea, eb, by rw [da.length, db.length]; exact Nat.le_of_lt (small5 hn), fun p np => q _ _ _ ((s2.trans s3).trans (same_new np)) ((s2.trans s3).free np) upd_same (DpAll.append (da.sm (s3.trans (same_new np))) (db.sm (same_new np)))⟩
theorem gl_cat (ha : GvL K ta σ H ds) (hb : GvL K tb σ H es) (hn : ds.length + es.length ≤ 100000) : GvL K (tOp rCat ta tb) σ H (ds ++ es) := (gn_cat ha hb hn).gl
theorem gs_setN {i : Nat} {u : TS} {D : Ends} (h : GvN K t σ H ds) (q : ∀ a vs H', Same H H' → H a = none → H' a = some (.lst vs) → DpAll K H' vs ds → u D (σ.set i (some (.ref a))) H') : tSeq (tAsg t (gName i)) u D σ H := h.at fun a vs H' s n e dv => q a vs H' s n e dv
theorem gs_setL {i : Nat} {u : TS} {D : Ends} (h : GvL K t σ H ds) (q : ∀ a vs H', Same H H' → H' a = some (.lst vs) → DpAll K H' vs ds → u D (σ.set i (some (.ref a))) H') : tSeq (tAsg t (gName i)) u D σ H := h.at fun a vs H' s e dv => q a vs H' s e dv
theorem gv_revL (h : Gv K t σ H (.list ds)) : Gv K (tRevL K t) σ H (.list ds.reverse) := fun H1 s Q q => h H1 s _ fun v H2 s2 d2 => by
  obtain ⟨a, xs, rfl, hq, hr⟩ := d2.lstI
  exact ⟨a, xs, rfl, hq, fun p np => q _ _ (s2.trans (same_new np)) (.lst (.inl (.inl upd_same)) (hr.reverse.sm (same_new np)))⟩
theorem gv_revT (h : Gv K t σ H (.tuple ds)) : Gv K (tRevT K t) σ H (.tuple ds.reverse) := fun H1 s Q q => h H1 s _ fun v H2 s2 d2 => by
  obtain ⟨a, xs, rfl, hq, hr⟩ := d2.tupI
  exact ⟨a, xs, rfl, hq, fun p np => q _ _ (s2.trans (same_new np)) (.tup (.inl (.inl upd_same)) (hr.reverse.sm (same_new np)))⟩
/-- tuple(range(n)) -/
theorem gv_tupRg {n : Nat} (h : Gv K t σ H (.int n)) (hn : n ≤ 100000) : Gv K (tTupRg (tRg1 t)) σ H (dInts ((List.range n).map fun i : Nat => (i : Int))) := fun H1 s Q q => h H1 s _ fun v H2 s2 d2 => by
  cases d2
  refine ⟨_, rfl, ⟨by omega, by omega, by omega, by omega, ?_⟩, fun p np => q _ _ (s2.trans (same_new np)) ?_⟩
  · have := small5 hn; omega
  · refine dp_ints (.inl (.inl ?_))
    rw [upd_same]
    unfold rgV
    rw [List.map_map, Int.sub_zero, Int.toNat_natCast]
    congr 2
    refine List.map_congr_left fun i _ => ?_
    show V.int (0 + (i : Int)) = V.int (i : Int)
    rw [Int.zero_add]
theorem gv_catT (ha : Gv K ta σ H (.tuple ds)) (hb : Gv K tb σ H (.tuple es)) (hn : ds.length + es.length ≤ 100000) : Gv K (tOp (rCatS K) ta tb) σ H (.tuple (ds ++ es)) :=
  gv_op2 ha hb fun x y H1 Q s hx hy q => by
    obtain ⟨a, xs, rfl, hq, hr⟩ := hx.tupI
    obtain ⟨b, ys, rfl, hq2, hr2⟩ := hy.tupI
    exact ⟨a, b, xs, ys, rfl, rfl, hq, hq2, by rw [hr.length, hr2.length]; exact Nat.le_of_lt (small5 hn), fun p H' s' hp => q _ _ s' (.tup hp (DpAll.append (hr.sm s') (hr2.sm s')))⟩
theorem cut_dp {ds : List PyData} {xs : List V} (h : DpAll K H xs ds) (lo hi : Option Int) : DpAll K H (cutV xs lo hi) ((ds.drop (HT.sIx ds.length 0 lo)).take (HT.sIx ds.length ds.length hi - HT.sIx ds.length 0 lo)) := by
  unfold cutV
  rw [h.length]
  exact (h.drop _).take _
end
end Pr
/-! Known tuples: tuple(range(n)), t[::-1], t.index(k). -/
namespace Pr
open PySem PySem.Spec PyProof.Rows L2
section
variable {X : Cx}
def tTupRgF (te : L2.St → Hp → (Int → Int → Hp → Prop) → Prop) : TE := fun σ H Q => te σ H fun a b H1 => RgOk a b ∧ ∀ q o, H1 q = none → o.dict = none → Q (.ref q) (upd H1 q (.frz o (.tup (rgV a b))))
theorem pe_tupRgF {e : Expr} {te : L2.St → Hp → (Int → Int → Hp → Prop) → Prop} {p pos : Pos} (hc : X.calm = true) (hg : Gl X "tuple") (hm : X.mg "tuple" = none) (he : PRg X e te) (na : starEach [e] X.env = (false, eval e X.env) :: starEach [] X.env := by rfl) : PE X (.Call (.Name "tuple" p) [e] [] pos) (tTupRgF te) := by
  refine ⟨fun pins s σ H Q I h => ?_⟩
  refine Call_ (ld_blt I hg hm boot_tuple (PyProof.Rows.callWith_type1 (args_cons (thn (he pins s σ H _ I h) fun x s1 ⟨r, a, b, t, u, v, H1, ex, hr, I1, ok, q⟩ => args_nil ?_) na) na))
  subst ex
  obtain ⟨b1, b2, b3, b4, b5⟩ := ok
  refine call_tuple_range (n := (b - a).toNat) (I1.ok.hd hc) hr (small_one b1 b2 b3 b4) (rangeSize_nat a b) b5 fun h' tk acc hk hi => ?_
  have I2 : Inv X pins σ H1 { s1 with heap := h', toks := tk } := I1.kept hk
  have z : (rgV a b).length ≤ sizeLine := by rw [rgV_length, sizeLine_eq]; omega
  refine ⟨.ref h'.objs.size, upd H1 h'.objs.size (.frz { cls := .type "tuple", data := .seq acc } (.tup (rgV a b))), I2.laid (t' := tk) (fun c o e => Heap.get?_push_of_some _ e) (Nat.le_refl _) ?_, rfl, q _ _ (I2.hok.fresh (Nat.le_refl _)) rfl⟩
  refine ⟨Heap.get?_push_size _ rfl, z, acc.toList, vals_rg hi, ?_⟩
  rw [Array.toArray_toList]; exact IsTup.new _ _
def tRevTF (K : PySem.W.Frag) (te : TE) : TE := fun σ H Q => te σ H fun x H1 => ∃ a xs, x = .ref a ∧ SqT K H1 a xs ∧ ∀ p o, H1 p = none → o.dict = none → Q (.ref p) (upd H1 p (.frz o (.tup xs.reverse)))
theorem pe_revTF {e : Expr} {te : TE} {k : Nat} {p1 p2 p3 pos : Pos} (he : PE X e te) : PE X (.Subscript e (.Slice none none (some (.UnaryOp .USub (.Constant (.int 1) k p1) p2)) p3) pos) (tRevTF X.K te) := by
  refine ⟨fun pins s σ H Q I h => Subscript_ (thn (he.run pins s σ H _ I h) fun v s1 ⟨x, H1, I1, r1, a, xs, ex, hx, q⟩ => ?_)⟩
  subst ex
  cases r1
  have hst : PO X (some (.UnaryOp .USub (.Constant (.int 1) k p1) p2)) (tPart (tUn (rU fun i => .int (-i)) (tC (.int 1)))) := po_some (pe_un un_neg pe_int)
  refine wpAny_Slice (thn (po_none.run pins s1 σ H1 (fun o H2 => o = none ∧ H2 = H1) I1 ⟨rfl, rfl⟩) fun vl s2 ⟨l, H2, I2, pl, el, e2⟩ => ?_)
  subst el e2
  refine thn (po_none.run pins s2 σ H2 (fun o H3 => o = none ∧ H3 = H2) I2 ⟨rfl, rfl⟩) fun vu s3 ⟨u, H3, I3, pu, eu, e3⟩ => ?_
  subst eu e3
  refine thn (hst.run pins s3 σ H3 (fun o H4 => o = some (-1) ∧ H4 = H3) I3 ⟨1, rfl, -1, rfl, rfl, rfl⟩) fun vs s4 ⟨o, H4, I4, ps, eo, e4⟩ => ?_
  subst eo e4
  cases pl
  cases pu
  have I5 : Inv X pins σ H4 { s4 with heap := s4.heap.push { cls := .type "slice", data := .fields #[.none, .none, vs] } } := I4.kept (t' := s4.toks) fun b ob q => Heap.get?_push_of_some _ q
  obtain ⟨its, r, ht, hz⟩ := I5.tuple hx
  have hlen := r.length
  show wpAny (model X.prog X.w) X.A (subscriptTail e (.Slice none none (some (.UnaryOp .USub (.Constant (.int 1) k p1) p2)) p3) (.ref a) (.ref s4.heap.objs.size)) (EP X pins σ Q) X.xe { s4 with heap := s4.heap.push { cls := .type "slice", data := .fields #[.none, .none, vs] } }
  refine tail_any (ops := [.ref a, .ref s4.heap.objs.size]) ht.typeIs (PyProof.Rows.slot_tuple_getitem.lookup) ?_ (by with_unfolding_all rfl)
  refine getItem_tuple_back ht (Heap.IsSliceOf.new _ .none .none vs) ps ?_ (by omega)
  refine ⟨.ref _, _, I5.laid (t' := s4.toks) (o := .frz { cls := .type "tuple", data := .seq its.reverse.toArray } (.tup xs.reverse)) (fun b ob q => Heap.get?_push_of_some _ q) (Nat.le_refl _) ?_, rfl, q _ _ (I5.hok.fresh (Nat.le_refl _)) rfl⟩
  exact ⟨Heap.get?_push_size _ rfl, by rw [List.length_reverse]; exact hz, _, r.reverse, IsTup.new _ _⟩
end
theorem rgV_intL (n : Nat) : rgV 0 (n : Int) = (intL n).map V.int := by
  unfold rgV intL
  rw [List.map_map, Int.sub_zero, Int.toNat_natCast]
  refine List.map_congr_left fun i _ => ?_
  show V.int (0 + (i : Int)) = V.int (i : Int)
  rw [Int.zero_add]
theorem idx_at {l : List Int} {k : Int} (h : k ∈ l) : l[l.idxOf k]? = some k ∧ ∀ m, m < l.idxOf k → l[m]? ≠ some k := by
  induction l with
  | nil => cases h
  | cons x r ih =>
    by_cases e : x = k
    · subst e
      rw [List.idxOf_cons_self]
      exact ⟨rfl, fun m h => by omega⟩
    · obtain ⟨h1, h2⟩ := ih ((List.mem_cons.mp h).resolve_left (Ne.symm e))
      rw [List.idxOf_cons, show (x == k) = false from beq_eq_false_iff_ne.mpr e, cond_false]
      refine ⟨by simpa using h1, fun m hm => ?_⟩
      cases m with
      | zero => simp; exact e
      | succ m => simpa using h2 m (by omega)
section
variable {K : PySem.W.Frag} {σ : L2.St} {H : Hp} {t ta tb : TE} {d e : PyData} {ds es : List PyData}
theorem gv_index {i : Nat} {p : Addr} {l : List Int} {k : Int} (hv : σ[i]? = some (some (.ref p))) (hF : FT H p (l.map V.int)) (ha : Gv K ta σ H (.int k)) (hk : k ∈ l) : Gv K (tTM (rIdxT K) (tVar i) (tCons ta tNil)) σ H (.int (l.idxOf k : Nat)) := fun H1 s Q q =>
  ⟨.ref p, hv, ⟨p, _, rfl, hF.same s⟩, ha H1 s _ fun v H2 s2 d2 => by
    cases d2
    exact ⟨p, l, k, l.idxOf k, rfl, rfl, ((hF.same s).same s2).sq, (idx_at hk).1, (idx_at hk).2, q _ _ s2 (.int _)⟩⟩
/-- a, b = x, y, plain names -/
theorem gs_par {i j : Nat} {ta : TA} {u : TS} {D : Ends} (h : GvA K ta σ H [d, e]) (q : ∀ v z H', Same H H' → Dp K H' v d → Dp K H' z e → u D ((σ.set i (some v)).set j (some z)) H') : tSeq (tPar i j ta) u D σ H := h H (Same.refl _) _ fun vs H' s dv => by
  obtain ⟨v, z, rfl, d1, d2⟩ := dpAll2 dv
  exact ⟨v, z, rfl, q v z H' s d1 d2⟩
/-- a, b = x, y -/
theorem gs_two {i j : Nat} {u : TS} {D : Ends} (h : Gv K t σ H (.tuple [d, e])) (q : ∀ v z H', Same H H' → Dp K H' v d → Dp K H' z e → u D ((σ.set i (some v)).set j (some z)) H') : tSeq (tAsg t (gTup K 2 (gCons (gName i) (gCons (gName j) gNil)))) u D σ H := h.at fun v H' s dv => by
  obtain ⟨T, xs, rfl, hT, hr⟩ := dv.tupI
  obtain ⟨v, z, rfl, d1, d2⟩ := dpAll2 hr
  exact ⟨T, [v, z], rfl, hT, rfl, v, [z], rfl, z, [], rfl, rfl, q v z H' s d1 d2⟩
theorem gs_three {i j k : Nat} {f : PyData} {u : TS} {D : Ends} (h : Gv K t σ H (.tuple [d, e, f])) (q : ∀ v z w H', Same H H' → Dp K H' v d → Dp K H' z e → Dp K H' w f → u D (((σ.set i (some v)).set j (some z)).set k (some w)) H') : tSeq (tAsg t (gTup K 3 (gCons (gName i) (gCons (gName j) (gCons (gName k) gNil))))) u D σ H := h.at fun v H' s dv => by
  obtain ⟨T, xs, rfl, hT, hr⟩ := dv.tupI
  obtain ⟨v, z, w, rfl, d1, d2, d3⟩ := dpAll3 hr
  exact ⟨T, [v, z, w], rfl, hT, rfl, v, [z, w], rfl, z, [w], rfl, w, [], rfl, rfl, q v z w H' s d1 d2 d3⟩
end
/-! ### a comprehension whose items are new lists -/
def LcN (K : PySem.W.Frag) (H1 : Hp) (D : Addr) (fs : Nat → List (List PyData)) (k : Nat) (H2 : Hp) : Prop := (∀ b o, b ≠ D → H1 b = some o → H2 b = some o) ∧ ∃ As : List Addr, H2 D = some (.lst (As.map V.ref)) ∧ D ∉ As ∧ Paired (fun A ds => ∃ vs, H2 A = some (.lst vs) ∧ DpAll K H2 vs ds) As (fs k) ∧ As.length ≤ k
theorem paired_mono_mem {α β : Type} {F G : α → β → Prop} : ∀ {l1 : List α} {l2 : List β}, Paired F l1 l2 → (∀ a b, a ∈ l1 → b ∈ l2 → F a b → G a b) → Paired G l1 l2
  | _, _, .nil, _ => .nil
  | _, _, .cons r t, h => .cons (h _ _ List.mem_cons_self List.mem_cons_self r) (paired_mono_mem t fun a b ha hb => h a b (List.mem_cons_of_mem _ ha) (List.mem_cons_of_mem _ hb))
theorem dpAll_of_pairs {K : PySem.W.Frag} {H : Hp} : ∀ {As : List Addr} {fs : List (List PyData)}, Paired (fun A ds => ∃ vs, H A = some (.lst vs) ∧ DpAll K H vs ds) As fs → DpAll K H (As.map V.ref) (fs.map PyData.list)
  | _, _, .nil => .nil
  | _, _, .cons ⟨vs, e, d⟩ t => .cons (.lst (.inl (.inl e)) d) (dpAll_of_pairs t)
theorem gn_lcN {K : PySem.W.Frag} {σ : L2.St} {H : Hp} {wi : TI} {tt : TT} {te : TE} {i : Nat} {α : Type} {δ : α → PyData} {as : List α} {p : α → Bool} {f : α → List PyData} (hI : GvI K Same wi σ H (as.map δ))
    (hb : ∀ a v H1, a ∈ as → Same H H1 → Dp K H1 v (δ a) → GvT tt ((σ.set i none).set i (some v)) H1 (p a) ∧ (p a = true → GvN K te ((σ.set i none).set i (some v)) H1 (f a)))
    (hf : ∀ a ∈ as, lfAll (f a) = true) (hn : as.length ≤ 100000) : GvN K (tLc wi (gName i) tt te [i]) σ H ((as.filter p).map fun a => PyData.list (f a)) := by
  intro H0 s0 Q q
  refine hI H0 s0 _ fun J H1 s1 w D nD => ?_
  rw [List.length_map] at w
  refine lc_it w (LcN K H1 D fun k => ((as.take k).filter p).map f) ⟨fun b o hb e => by rw [upd_ne hb]; exact e, [], upd_same, by simp, .nil, Nat.zero_le _⟩ (fun k H2 _ hP b o e => hP.1 b o (ne_of_none e nD) e) (fun k x H2 H3 hk hP hY => ?_) (fun H2 hP => ?_)
  · obtain ⟨s2, As, eD, nDA, hp, la⟩ := hP
    obtain ⟨s3, d, hd, dx⟩ := hY
    rw [List.getElem?_map, List.getElem?_eq_getElem hk] at hd
    cases hd
    have sH : Same H H3 := (s0.trans s1).trans fun b o e => s3 _ _ (s2 b o (ne_of_none e nD) e)
    obtain ⟨g1, g2⟩ := hb as[k] x H3 (List.getElem_mem _) sH dx
    refine ⟨by show ((σ.set i none).set i (some x)).set i none = σ.set i none; rw [List.set_set, List.set_set], g1.at fun H4 s4 => ?_⟩
    have et : ∀ b, p as[k] = b → ((as.take (k + 1)).filter p).map f = ((as.take k).filter p).map f ++ if b then [f as[k]] else [] := fun b hb => by
      rw [List.take_add_one, List.getElem?_eq_getElem hk, Option.toList_some, List.filter_append, List.map_append]
      cases b with
      | true => rw [List.filter_cons_of_pos hb]; rfl
      | false => rw [List.filter_cons_of_neg (by rw [hb]; exact Bool.false_ne_true)]; rfl
    cases hpk : p as[k] with
    | true =>
      rw [if_pos rfl]
      refine g2 hpk H4 s4 _ fun A vs H5 s5 nA eA dA => ⟨As.map V.ref, s5 _ _ (s4 _ _ (s3 _ _ eD)), by rw [List.length_map]; exact small5 (by omega), ?_⟩
      have s35 := (s3.trans s4).trans s5
      have eD4 := s4 _ _ (s3 _ _ eD)
      have AD : A ≠ D := fun z => by rw [z, eD4] at nA; cases nA
      have kD : Kp H5 (upd H5 D (.lst (As.map V.ref ++ [V.ref A]))) := Kp.upd (s35 _ _ eD)
      refine ⟨fun b o hb e => by rw [upd_ne hb]; exact s35 _ _ (s2 b o hb e), As ++ [A], by rw [upd_same, List.map_append]; rfl, fun z => ?_, ?_, by rw [List.length_append]; show As.length + 1 ≤ k + 1; omega⟩
      · rcases List.mem_append.mp z with z | z
        · exact nDA z
        · exact AD (List.mem_singleton.mp z).symm
      · show Paired _ _ (((as.take (k + 1)).filter p).map f)
        rw [et true hpk]
        refine Paired.snoc (paired_mono_mem hp fun A' ds hA' hds ⟨vs', e', d'⟩ => ⟨vs', by rw [upd_ne (show A' ≠ D from fun z => nDA (by rw [← z]; exact hA'))]; exact s35 _ _ e', ?_⟩) ⟨vs, by rw [upd_ne AD]; exact eA, dpAll_kp kD _ _ (hf _ (List.getElem_mem _)) dA⟩
        obtain ⟨a', ha', rfl⟩ := List.mem_map.mp hds
        exact dpAll_kp kD _ _ (hf _ (List.mem_of_mem_take (List.mem_filter.mp ha').1)) (d'.sm s35)
    | false =>
      rw [if_neg Bool.false_ne_true]
      have s34 := s3.trans s4
      refine ⟨fun b o hb e => s34 _ _ (s2 b o hb e), As, s34 _ _ eD, nDA, ?_, by omega⟩
      show Paired _ _ (((as.take (k + 1)).filter p).map f)
      rw [et false hpk]
      show Paired _ _ (_ ++ [])
      rw [List.append_nil]
      exact hp.mono fun A' ds ⟨vs', e', d'⟩ => ⟨vs', s34 _ _ e', d'.sm s34⟩
  · obtain ⟨s2, As, eD, nDA, hp, la⟩ := hP
    replace hp : Paired (fun A ds => ∃ vs, H2 A = some (.lst vs) ∧ DpAll K H2 vs ds) As (((as.take as.length).filter p).map f) := hp
    rw [List.take_length] at hp
    have := dpAll_of_pairs hp
    rw [List.map_map] at this
    exact q _ _ H2 (s1.trans fun b o e => s2 b o (ne_of_none e nD) e) (s1.free nD) eD this
theorem gv_andV {K : PySem.W.Frag} {σ : L2.St} {H : Hp} {ta tb : TE} {b c : Bool} (ha : Gv K ta σ H (.bool b)) (hb : b = true → Gv K tb σ H (.bool c)) : Gv K (tAndV ta tb) σ H (.bool (b && c)) := fun H1 s Q q => ha H1 s _ fun v H2 s2 d2 => by
  cases d2
  refine ⟨b, rfl, ?_⟩
  cases b with
  | true => rw [if_pos rfl]; exact hb rfl H2 (s.trans s2) _ fun v H3 s3 d3 => q v H3 (s2.trans s3) d3
  | false => rw [if_neg Bool.false_ne_true]; exact q _ _ s2 (.bl false)
theorem gv_orV {K : PySem.W.Frag} {σ : L2.St} {H : Hp} {ta tb : TE} {b c : Bool} (ha : Gv K ta σ H (.bool b)) (hb : b = false → Gv K tb σ H (.bool c)) : Gv K (tOrV ta tb) σ H (.bool (b || c)) := fun H1 s Q q => ha H1 s _ fun v H2 s2 d2 => by
  cases d2
  refine ⟨b, rfl, ?_⟩
  cases b with
  | true => rw [if_pos rfl]; exact q _ _ s2 (.bl true)
  | false => rw [if_neg Bool.false_ne_true]; exact hb rfl H2 (s.trans s2) _ fun v H3 s3 d3 => q v H3 (s2.trans s3) d3
theorem gv_notV {K : PySem.W.Frag} {σ : L2.St} {H : Hp} {ta : TE} {b : Bool} (ha : Gv K ta σ H (.bool b)) : Gv K (tNotV ta) σ H (.bool (!b)) := fun H1 s Q q => ha H1 s _ fun v H2 s2 d2 => by
  cases d2
  exact ⟨b, rfl, q _ _ s2 (.bl _)⟩
/-! ### names of buttons -/
/-- each of 0 .. n - 1 once -/
structure IsP (n : Nat) (nm : List Int) : Prop where
  len : nm.length = n
  nd : nm.Nodup
  rng : ∀ x ∈ nm, 0 ≤ x ∧ x < (n : Int)
theorem IsP.mem {n : Nat} {nm : List Int} (h : IsP n nm) {x : Int} (h0 : 0 ≤ x) (h1 : x < (n : Int)) : x ∈ nm := Classical.byContradiction fun hx => by
  have := nodup_few n (x :: nm) (List.nodup_cons.mpr ⟨hx, h.nd⟩) fun y hy => by
    rcases List.mem_cons.mp hy with rfl | hy
    · exact ⟨h0, h1⟩
    · exact h.rng y hy
  rw [List.length_cons, h.len] at this
  omega
theorem isP_intL (n : Nat) : IsP n (intL n) := ⟨intL_len n, (intL_up n).imp fun {x y} h => by omega, fun x hx => mem_intL.mp hx⟩
theorem isP_rev {n : Nat} {nm : List Int} (h : IsP n nm) : IsP n nm.reverse := ⟨by rw [List.length_reverse, h.len], (List.reverse_perm nm).nodup_iff.mpr h.nd, fun x hx => h.rng x (List.mem_reverse.mp hx)⟩
/-- what button b is called -/
def nmOf (nm : List Int) (x : Int) : Int := nm.getD x.toNat 0
theorem IsP.at {n : Nat} {nm : List Int} (h : IsP n nm) {x : Int} (h0 : 0 ≤ x) (h1 : x < (n : Int)) : nm[x.toNat]? = some (nmOf nm x) := by
  unfold nmOf
  rw [List.getD_eq_getElem?_getD, List.getElem?_eq_getElem (by rw [h.len]; omega)]; rfl
theorem IsP.rngOf {n : Nat} {nm : List Int} (h : IsP n nm) {x : Int} (h0 : 0 ≤ x) (h1 : x < (n : Int)) : 0 ≤ nmOf nm x ∧ nmOf nm x < (n : Int) := h.rng _ (List.mem_of_getElem? (h.at h0 h1))
theorem nd_get {l : List Int} (h : l.Nodup) {i j : Nat} {x : Int} (hi : l[i]? = some x) (hj : l[j]? = some x) : i = j := by
  obtain ⟨w1, z1⟩ := List.getElem?_eq_some_iff.mp hi
  obtain ⟨w2, z2⟩ := List.getElem?_eq_some_iff.mp hj
  have hp := List.pairwise_iff_getElem.mp h
  rcases Nat.lt_trichotomy i j with lt | e | lt
  · exact absurd (z1.trans z2.symm) (hp _ _ w1 w2 lt)
  · exact e
  · exact absurd (z2.trans z1.symm) (hp _ _ w2 w1 lt)
theorem IsP.inj {n : Nat} {nm : List Int} (h : IsP n nm) {x y : Int} (h0 : 0 ≤ x) (h1 : x < (n : Int)) (h2 : 0 ≤ y) (h3 : y < (n : Int)) (e : nmOf nm x = nmOf nm y) : x = y := by
  have a := h.at h0 h1
  have b := h.at h2 h3
  rw [← e] at b
  have := nd_get h.nd a b
  omega
/-- the button that is called x -/
theorem IsP.idx {n : Nat} {nm : List Int} (h : IsP n nm) {x : Int} (h0 : 0 ≤ x) (h1 : x < (n : Int)) : nm.idxOf x < n ∧ nmOf nm (nm.idxOf x : Nat) = x := by
  obtain ⟨g1, _⟩ := idx_at (h.mem h0 h1)
  have hl := (List.getElem?_eq_some_iff.mp g1).1
  rw [h.len] at hl
  refine ⟨hl, ?_⟩
  have := h.at (x := (nm.idxOf x : Nat)) (by omega) (by omega)
  rw [Int.toNat_natCast, g1] at this
  exact (Option.some.inj this).symm
theorem IsP.idx_of {n : Nat} {nm : List Int} (h : IsP n nm) {x : Int} (h0 : 0 ≤ x) (h1 : x < (n : Int)) : (nm.idxOf (nmOf nm x) : Int) = x := by
  have r := h.rngOf h0 h1
  obtain ⟨g1, g2⟩ := h.idx r.1 r.2
  exact h.inj (by omega) (by omega) h0 h1 g2
/-- the panel with other names -/
def renM (pan : List (List Int)) (nm : List Int) : List (List Int) := (List.range pan.length).map fun x : Nat => srt ((pan.getD (nm.idxOf (x : Int)) []).map (nmOf nm))
theorem renM_len (pan : List (List Int)) (nm : List Int) : (renM pan nm).length = pan.length := by unfold renM; rw [List.length_map, List.length_range]
/-- the same by looking at each button -/
def renD (pan : List (List Int)) (nm : List Int) : List (List Int) := (List.range pan.length).map fun x : Nat => (intL pan.length).filter fun o => decide ((nm.idxOf o : Int) ∈ pan.getD (nm.idxOf (x : Int)) [])
theorem ren_eq {pan : List (List Int)} {nm : List Int} (g : Good pan) (h : IsP pan.length nm) : renM pan nm = renD pan nm := by
  unfold renM renD
  refine List.map_congr_left fun x hx => ?_
  have hx' : x < pan.length := List.mem_range.mp hx
  obtain ⟨i1, i2⟩ := h.idx (x := (x : Int)) (by omega) (by omega)
  have hl : pan.getD (nm.idxOf (x : Int)) [] ∈ pan := by
    rw [List.getD_eq_getElem?_getD, List.getElem?_eq_getElem i1]; exact List.getElem_mem _
  have rg := g.rng _ hl
  have up := g.up _ hl
  have ndm : ((pan.getD (nm.idxOf (x : Int)) []).map (nmOf nm)).Nodup := by
    rw [List.nodup_iff_pairwise_ne, List.pairwise_map]
    refine List.Pairwise.imp_of_mem ?_ up
    intro a b ha hb hab e
    have := h.inj (rg a ha).1 (rg a ha).2 (rg b hb).1 (rg b hb).2 e
    omega
  refine asc_ext ?_ ((intL_up _).filter _) fun o => ?_
  · have nd2 : (srt ((pan.getD (nm.idxOf (x : Int)) []).map (nmOf nm))).Nodup := (srt_perm _).nodup_iff.mpr ndm
    have := (srt_up ((pan.getD (nm.idxOf (x : Int)) []).map (nmOf nm))).and (List.nodup_iff_pairwise_ne.mp nd2)
    exact this.imp fun ⟨h1, h2⟩ => by omega
  · rw [(srt_perm _).mem_iff, List.mem_map, List.mem_filter, mem_intL, decide_eq_true_eq]
    constructor
    · rintro ⟨y, hy, rfl⟩
      have ry := rg y hy
      exact ⟨h.rngOf ry.1 ry.2, by rw [h.idx_of ry.1 ry.2]; exact hy⟩
    · rintro ⟨⟨o0, o1⟩, ho⟩
      exact ⟨_, ho, (h.idx o0 o1).2⟩
theorem ren_self {pan : List (List Int)} (g : Good pan) : renM pan (intL pan.length) = pan := by
  have h := isP_intL pan.length
  have id : ∀ x : Int, 0 ≤ x → x < (pan.length : Int) → nmOf (intL pan.length) x = x := fun x h0 h1 => by
    have := h.at h0 h1
    unfold intL at this ⊢
    rw [List.getElem?_map, List.getElem?_range (by omega)] at this
    have e := Option.some.inj this
    unfold nmOf
    rw [List.getD_eq_getElem?_getD, List.getElem?_map, List.getElem?_range (by omega)]
    show ((x.toNat : Nat) : Int) = x
    omega
  refine List.ext_getElem? fun i => ?_
  unfold renM
  by_cases hi : i < pan.length
  · rw [List.getElem?_map, List.getElem?_range hi, List.getElem?_eq_getElem hi]
    have e := h.idx_of (x := (i : Int)) (by omega) (by omega)
    rw [id _ (by omega) (by omega)] at e
    have e' : (intL pan.length).idxOf (i : Int) = i := by omega
    show some (srt ((pan.getD ((intL pan.length).idxOf (i : Int)) []).map _)) = some pan[i]
    rw [e']
    have gl : pan.getD i [] = pan[i] := by rw [List.getD_eq_getElem?_getD, List.getElem?_eq_getElem hi]; rfl
    rw [gl]
    have rg := g.rng _ (List.getElem_mem hi)
    have em : pan[i].map (nmOf (intL pan.length)) = pan[i] := by
      conv => rhs; rw [← List.map_id pan[i]]
      exact List.map_congr_left fun x hx => id x (rg x hx).1 (rg x hx).2
    rw [em, srt_self (g.up _ (List.getElem_mem hi))]
  · rw [List.getElem?_eq_none (by rw [List.length_map, List.length_range]; omega), List.getElem?_eq_none (by omega)]
end Pr
/-! A search by presses, as plain functions: the things found in their order, each with its row. -/
namespace Pr
open PySem PySem.Spec PyProof.Rows L2
section
variable {κ : Type} [DecidableEq κ]
abbrev BL (κ : Type) := List (κ × List Int)
def addK (L : BL κ) (k : κ) (r : List Int) : BL κ := if k ∈ L.map (·.1) then L else L ++ [(k, r)]
/-- what the first m presses of one thing add -/
def procB (step : κ → Nat → κ) (L : BL κ) (k : κ) (r : List Int) (m : Nat) : BL κ := (List.range m).foldl (fun L b => addK L (step k b) (r ++ [(b : Int)])) L
theorem procB_succ (step : κ → Nat → κ) (L : BL κ) (k : κ) (r : List Int) (m : Nat) : procB step L k r (m + 1) = addK (procB step L k r m) (step k m) (r ++ [(m : Int)]) := by
  unfold procB; rw [List.range_succ, List.foldl_append]; rfl
def bfsN (step : κ → Nat → κ) (n : Nat) (s : κ) : Nat → BL κ
  | 0 => [(s, [])]
  | i + 1 => match (bfsN step n s i)[i]? with
    | none => bfsN step n s i
    | some x => procB step (bfsN step n s i) x.1 x.2 n
theorem addK_pre (L : BL κ) (k : κ) (r : List Int) : L <+: addK L k r := by
  unfold addK; split
  · exact List.prefix_refl _
  · exact List.prefix_append _ _
theorem procB_pre (step : κ → Nat → κ) (L : BL κ) (k : κ) (r : List Int) : ∀ m, L <+: procB step L k r m
  | 0 => List.prefix_refl _
  | m + 1 => by rw [procB_succ]; exact (procB_pre step L k r m).trans (addK_pre _ _ _)
variable {step : κ → Nat → κ} {n : Nat} {s : κ}
theorem bfs_step {i : Nat} {x : κ × List Int} (h : (bfsN step n s i)[i]? = some x) : bfsN step n s (i + 1) = procB step (bfsN step n s i) x.1 x.2 n := by
  simp only [bfsN, h]
theorem bfs_succ_pre (i : Nat) : bfsN step n s i <+: bfsN step n s (i + 1) := by
  show bfsN step n s i <+: match (bfsN step n s i)[i]? with | none => bfsN step n s i | some x => procB step (bfsN step n s i) x.1 x.2 n
  split
  · exact List.prefix_refl _
  · exact procB_pre _ _ _ _ _
theorem bfs_pre {i j : Nat} (h : i ≤ j) : bfsN step n s i <+: bfsN step n s j := by
  induction j with
  | zero => have : i = 0 := by omega
            subst this; exact List.prefix_refl _
  | succ j ih =>
    by_cases e : i = j + 1
    · subst e; exact List.prefix_refl _
    · exact (ih (by omega)).trans (bfs_succ_pre j)
theorem pre_get {α : Type} {l1 l2 : List α} (h : l1 <+: l2) {i : Nat} (hi : i < l1.length) : l2[i]? = l1[i]? := by
  obtain ⟨t, rfl⟩ := h
  rw [List.getElem?_append_left hi]
theorem addK_all {P : κ → Prop} {L : BL κ} {k : κ} {r : List Int} (h : ∀ x ∈ L, P x.1) (hk : P k) : ∀ x ∈ addK L k r, P x.1 := by
  unfold addK; split
  · exact h
  · intro x hx
    rcases List.mem_append.mp hx with hx | hx
    · exact h x hx
    · rw [List.mem_singleton.mp hx]; exact hk
theorem addK_nd {L : BL κ} {k : κ} {r : List Int} (h : (L.map (·.1)).Nodup) : ((addK L k r).map (·.1)).Nodup := by
  unfold addK; split
  · exact h
  · rename_i hk
    rw [List.map_append, List.nodup_append]
    exact ⟨h, by simp, fun a ha b hb => by rintro rfl; exact hk (by rw [List.mem_singleton.mp hb] at ha; exact ha)⟩
theorem procB_all {P : κ → Prop} {L : BL κ} {k : κ} {r : List Int} (h : ∀ x ∈ L, P x.1) : ∀ m, (∀ b, b < m → P (step k b)) → ∀ x ∈ procB step L k r m, P x.1
  | 0, _ => h
  | m + 1, hk => by rw [procB_succ]; exact addK_all (procB_all h m fun b hb => hk b (by omega)) (hk m (by omega))
theorem procB_nd {L : BL κ} {k : κ} {r : List Int} (h : (L.map (·.1)).Nodup) : ∀ m, ((procB step L k r m).map (·.1)).Nodup
  | 0 => h
  | m + 1 => by rw [procB_succ]; exact addK_nd (procB_nd h m)
theorem bfs_nd (i : Nat) : ((bfsN step n s i).map (·.1)).Nodup := by
  induction i with
  | zero => show ([s]).Nodup; simp
  | succ i ih =>
    show (List.map (fun x : κ × List Int => x.1) (match (bfsN step n s i)[i]? with | none => bfsN step n s i | some x => procB step (bfsN step n s i) x.1 x.2 n)).Nodup
    split
    · exact ih
    · exact procB_nd ih n
theorem bfs_all {P : κ → Prop} (h0 : P s) (hs : ∀ k b, P k → b < n → P (step k b)) (i : Nat) : ∀ x ∈ bfsN step n s i, P x.1 := by
  induction i with
  | zero => intro x hx; rw [List.mem_singleton.mp hx]; exact h0
  | succ i ih =>
    show ∀ x ∈ (match (bfsN step n s i)[i]? with | none => bfsN step n s i | some x => procB step (bfsN step n s i) x.1 x.2 n), P x.1
    split
    · exact ih
    · rename_i x hx
      exact procB_all ih n fun b hb => hs _ _ (ih _ (List.mem_of_getElem? hx)) hb
theorem bfs_stop {i : Nat} (h : (bfsN step n s i).length ≤ i) {j : Nat} (hj : i ≤ j) : bfsN step n s j = bfsN step n s i := by
  induction j with
  | zero => have : i = 0 := by omega
            subst this; rfl
  | succ j ih =>
    by_cases e : i = j + 1
    · subst e; rfl
    · have ih := ih (by omega)
      show (match (bfsN step n s j)[j]? with | none => bfsN step n s j | some x => procB step (bfsN step n s j) x.1 x.2 n) = _
      rw [ih, List.getElem?_eq_none (by omega)]
theorem bfs_len_pos (i : Nat) : 0 < (bfsN step n s i).length := by
  have := (bfs_pre (step := step) (n := n) (s := s) (Nat.zero_le i)).length_le
  exact this
/-- rows are short: the row of a thing is as long as its level -/
theorem procB_rows {L : BL κ} {k : κ} {r : List Int} {N : Nat} (h : ∀ x ∈ L, x.2.length ≤ N ∧ ∀ y ∈ x.2, 0 ≤ y ∧ y < (n : Int)) (hr : r.length + 1 ≤ N ∧ ∀ y ∈ r, 0 ≤ y ∧ y < (n : Int)) : ∀ m, m ≤ n → ∀ x ∈ procB step L k r m, x.2.length ≤ N ∧ ∀ y ∈ x.2, 0 ≤ y ∧ y < (n : Int)
  | 0, _ => h
  | m + 1, hm => by
    rw [procB_succ]
    unfold addK
    split
    · exact procB_rows h hr m (by omega)
    · intro x hx
      rcases List.mem_append.mp hx with hx | hx
      · exact procB_rows h hr m (by omega) x hx
      · rw [List.mem_singleton.mp hx]
        refine ⟨by rw [List.length_append]; exact hr.1, fun y hy => ?_⟩
        rcases List.mem_append.mp hy with hy | hy
        · exact hr.2 y hy
        · rw [List.mem_singleton.mp hy]; omega
theorem bfs_rows (i : Nat) : ∀ x ∈ bfsN step n s i, x.2.length ≤ i ∧ ∀ y ∈ x.2, 0 ≤ y ∧ y < (n : Int) := by
  induction i with
  | zero => intro x hx; rw [List.mem_singleton.mp hx]; exact ⟨Nat.le_refl _, fun y hy => by cases hy⟩
  | succ i ih =>
    have ih' : ∀ x ∈ bfsN step n s i, x.2.length ≤ i + 1 ∧ ∀ y ∈ x.2, 0 ≤ y ∧ y < (n : Int) := fun x hx => ⟨by have := (ih x hx).1; omega, (ih x hx).2⟩
    show ∀ x ∈ (match (bfsN step n s i)[i]? with | none => bfsN step n s i | some x => procB step (bfsN step n s i) x.1 x.2 n), _
    split
    · exact ih'
    · rename_i x hx
      have hx' := ih x (List.mem_of_getElem? hx)
      exact procB_rows ih' ⟨by omega, hx'.2⟩ n (Nat.le_refl _)
end
/-! ### how many -/
/-- the number whose digits to the base b these are -/
def enc (b : Nat) : Nat → (Nat → Nat) → Nat
  | 0, _ => 0
  | n + 1, d => d 0 + b * enc b n fun i => d (i + 1)
theorem enc_lt {b : Nat} : ∀ (n : Nat) (d : Nat → Nat), (∀ i, i < n → d i < b) → enc b n d < b ^ n
  | 0, _, _ => by simp [enc]
  | n + 1, d, h => by
    have h0 := h 0 (by omega)
    have h1 := enc_lt n (fun i => d (i + 1)) fun i hi => h (i + 1) (by omega)
    show d 0 + b * enc b n (fun i => d (i + 1)) < b ^ (n + 1)
    rw [Nat.pow_succ]
    have h2 : b * (enc b n (fun i => d (i + 1)) + 1) ≤ b * b ^ n := Nat.mul_le_mul_left _ h1
    rw [Nat.mul_add, Nat.mul_one] at h2
    rw [Nat.mul_comm (b ^ n) b]
    omega
theorem enc_inj {b : Nat} : ∀ (n : Nat) (d e : Nat → Nat), (∀ i, i < n → d i < b) → (∀ i, i < n → e i < b) → enc b n d = enc b n e → ∀ i, i < n → d i = e i
  | 0, _, _, _, _, _, i, hi => by omega
  | n + 1, d, e, hd, he, h, i, hi => by
    have h' : d 0 + b * enc b n (fun i => d (i + 1)) = e 0 + b * enc b n (fun i => e (i + 1)) := h
    have d0 := hd 0 (by omega)
    have e0 := he 0 (by omega)
    have hb : 0 < b := by omega
    have z : d 0 = e 0 := by
      have := congrArg (· % b) h'
      simp only [Nat.add_mul_mod_self_left] at this
      rwa [Nat.mod_eq_of_lt d0, Nat.mod_eq_of_lt e0] at this
    have z2 : enc b n (fun i => d (i + 1)) = enc b n (fun i => e (i + 1)) := by
      rw [z] at h'
      exact Nat.eq_of_mul_eq_mul_left hb (Nat.add_left_cancel h')
    cases i with
    | zero => exact z
    | succ i => exact enc_inj n _ _ (fun i hi => hd (i + 1) (by omega)) (fun i hi => he (i + 1) (by omega)) z2 i (by omega)
/-- things with different digits are few -/
theorem few_of {κ : Type} {b n : Nat} {P : κ → Prop} {dig : κ → Nat → Nat} (hd : ∀ k i, P k → i < n → dig k i < b) (inj : ∀ k k', P k → P k' → (∀ i, i < n → dig k i = dig k' i) → k = k') {ks : List κ} (nd : ks.Nodup) (h : ∀ k ∈ ks, P k) : ks.length ≤ b ^ n := by
  have := nodup_few (b ^ n) (ks.map fun k => ((enc b n (dig k) : Nat) : Int)) ?_ ?_
  · rwa [List.length_map] at this
  · rw [List.nodup_iff_pairwise_ne, List.pairwise_map]
    refine List.Pairwise.imp_of_mem ?_ (List.nodup_iff_pairwise_ne.mp nd)
    intro k k' hk hk' ne e
    refine ne (inj k k' (h k hk) (h k' hk') ?_)
    exact enc_inj n _ _ (fun i hi => hd k i (h k hk) hi) (fun i hi => hd k' i (h k' hk') hi) (by omega)
  · intro x hx
    obtain ⟨k, hk, rfl⟩ := List.mem_map.mp hx
    have := enc_lt n (dig k) fun i hi => hd k i (h k hk) hi
    exact ⟨by omega, by exact_mod_cast this⟩
/-- states of n buttons -/
theorem few_states {n : Nat} {ks : List (List Int)} (nd : ks.Nodup) (h : ∀ k ∈ ks, Asc n k) : ks.length ≤ 2 ^ n := by
  refine few_of (P := Asc n) (dig := fun k i => if (i : Int) ∈ k then 1 else 0) (fun k i _ _ => by split <;> omega) (fun k k' hk hk' hh => ?_) nd h
  refine asc_ext hk.up hk'.up fun x => ?_
  have key : ∀ {l l' : List Int}, Asc n l → (∀ i, i < n → (if (i : Int) ∈ l then 1 else 0 : Nat) = if (i : Int) ∈ l' then 1 else 0) → ∀ {x : Int}, x ∈ l → x ∈ l' := fun {l l'} hl hh {x} hx => by
    have r := hl.rng x hx
    have := hh x.toNat (by omega)
    rw [show ((x.toNat : Nat) : Int) = x by omega, if_pos hx] at this
    by_cases h : x ∈ l'
    · exact h
    · rw [if_neg h] at this; omega
  exact ⟨key hk hh, key hk' fun i hi => (hh i hi).symm⟩
end Pr
/-! sorted(list of tuples of ints) where the first of the list is the empty tuple. -/
namespace Pr
open PySem PySem.Spec PyProof.Rows L2 PySem.W
/-- v is a tuple that holds these numbers -/
def IsTI (h : Heap) (v : Value) (ns : List Int) : Prop :=
  ∃ (a : Addr) (dd : Option Addr) (items : Array Value) (n : Nat) (sl : Array (Option Value)), v = .ref a ∧ h.get? a = some { cls := .type "tuple", dict := dd, data := .seq items n, slots := sl } ∧ IntsAre items.toList ns
theorem IsTI.keeps {h h' : Heap} {v : Value} {ns : List Int} (x : IsTI h v ns) (k : ∀ b o, v = .ref b → h.get? b = some o → h'.get? b = some o) : IsTI h' v ns := by
  obtain ⟨a, dd, items, n, sl, e, g, i⟩ := x
  exact ⟨a, dd, items, n, sl, e, k _ _ e g, i⟩
theorem IsTI.type {M : Model} {h : Heap} {v : Value} {ns : List Int} (x : IsTI h v ns) : Looks M h (typeOf v) (.type "tuple") := by
  obtain ⟨a, dd, items, n, sl, rfl, g, i⟩ := x
  exact (Looks.ld g).andThen .now
section
variable {prog : Program} {w : World} {A : Around} {E : Value → Shared → Prop} {s : Shared}
theorem call_ltT {a b : Addr} {dd dd2 : Option Addr} {items items2 : Array Value} {n n2 : Nat} {sl sl2 : Array (Option Value)} {ns ms : List Int} {Q : Value → Shared → Prop} (ga : s.heap.get? a = some { cls := .type "tuple", dict := dd, data := .seq items n, slots := sl })
    (gb : s.heap.get? b = some { cls := .type "tuple", dict := dd2, data := .seq items2 n2, slots := sl2 }) (ia : IntsAre items.toList ns) (ib : IntsAre items2.toList ms) (iv : Looks (model prog w) s.heap (isInstance (.ref a) (.type "tuple")) true)
    (iu : ∀ M : Model, Looks M s.heap (isInstance (.ref b) (.type "tuple")) true) (h : Q (.bool (HT.lexLt ns ms)) s) : wpAny (model prog w) A (call (.builtin "tuple.__lt__") [.ref a, .ref b]) Q E s := by
  refine wpAny_call (codeAny_call_builtin PySem.F.slot_tuple_lt.plain PySem.F.entry_tuple_lt (@check_slot (model prog w) _ _ _ "tuple.__lt__" "tuple" "__lt__" (.ref a) [.ref b] [] _ (by decide +kernel) (by decide +kernel) iv (PySem.F.args_tuple_lt_2 _ _) ?_))
  refine wpAny_mono (NtL.nt_lt_ints a b (.type "tuple") (.type "tuple") items items2 n n2 dd dd2 sl sl2 ns ms ia ib prog w _ (wants Q E) s ⟨ga, gb, iu, h⟩) (fun fin s' q => ?_) fun _ _ z => z
  cases fin with
  | done f => exact q
  | again c => exact q
theorem lt_ti {v u : Value} {ns ms : List Int} {Q : Bool → Shared → Prop} (hu : A.units < cLine) (hv : IsTI s.heap v ns) (hw : IsTI s.heap u ms) (h : Q (HT.lexLt ns ms) s) : wpAny (model prog w) A (keyLt' oneType' v u) Q E s := by
  have iu : ∀ M : Model, Looks M s.heap (isInstance u (.type "tuple")) true := fun M => (hw.type (M := M)).andThen (Looks.of_pure (by rfl))
  obtain ⟨a, dd, items, n, sl, rfl, ga, ia⟩ := hv
  obtain ⟨b, dd2, items2, n2, sl2, rfl, gb, ib⟩ := hw
  have iv : Looks (model prog w) s.heap (isInstance (.ref a) (.type "tuple")) true := (Looks.ld ga).andThen (Looks.of_pure (by rfl))
  rw [keyLt'_oneType, oneLt'_eq]
  simp only [if_true]
  refine wpAny_bind (wpAny_cRoomFor hu ?_)
  refine wpAny_bind (wpAny_callSpecialIfBound?_slot (T := "tuple") ⟨_, ga, rfl⟩ PySem.F.slot_tuple_lt (call_ltT ga gb ia ib iv iu ?_))
  exact wpAny_truthy_bool h
/-- the kind of keys: the first one is the empty tuple -/
theorem mapM_by {α β : Type} {M : Model} {f : α → Sem β} (g : α → β) : ∀ (l : List α) {Q : List β → Shared → Prop}, (∀ v ∈ l, ∀ (Q' : β → Shared → Prop), Q' (g v) s → wpAny M A (f v) Q' E s) → Q (l.map g) s → wpAny M A (l.mapM f) Q E s
  | [], _, _, h => by rw [List.mapM_nil]; exact wpAny_pure h
  | x :: l, Q, hf, h => by
    rw [List.mapM_cons]
    exact wpAny_bind (hf x (.head _) _ (wpAny_bind (mapM_by g l (Q := fun bs s' => wpAny M A (pure (g x :: bs)) Q E s') (fun v hv => hf v (.tail _ hv)) (wpAny_pure h))))
def firstIn (h : Heap) (v : Value) : Option Value := match v with
  | .ref a => match h.get? a with
    | some ⟨_, _, .seq its _, _⟩ => its[0]?
    | _ => none
  | _ => none
theorem kind_ti {v₁ v₂ : Value} {rest : List Value} {k : Value → List Int} {Q : SortKind → Shared → Prop} (hv : ∀ v ∈ v₁ :: v₂ :: rest, IsTI s.heap v (k v)) (h1 : k v₁ = []) (h : Q oneType' s) :
    wpAny (model prog w) A (keyKind' (v₁ :: v₂ :: rest).toArray) Q E s := by
  rw [kat_kind_eq, List.mapM_toArray, map_eq_pure_bind]
  have e0 : firstIn s.heap v₁ = none := by
    obtain ⟨a, dd, items, n, sl, e, g, i⟩ := hv v₁ List.mem_cons_self
    rw [h1] at i
    have hi := i.length
    subst e
    unfold firstIn
    simp only [g]
    rw [Array.getElem?_eq_none]
    simpa using hi
  refine wpAny_bind (wpAny_bind (mapM_by (firstIn s.heap) _ (fun v hm Q' hq => ?_) (wpAny_pure ?_)))
  · obtain ⟨a, dd, items, n, sl, e, g, i⟩ := hv v hm
    rw [kas_first_eq]
    refine wpAny_bind ((hv v hm).type.here ?_)
    rw [if_neg (by decide)]
    subst e
    unfold firstIn at hq
    simp only [g] at hq
    exact wpAny_bind (listItems_at g rfl (wpAny_pure hq))
  · rw [if_neg (by simp [e0]), if_neg (by simp [e0])]
    rw [oneTypeOnly'_eq, List.mapM_toArray, map_eq_pure_bind]
    refine wpAny_bind (wpAny_bind (wpAny_bind (kas_mapM (r := Value.type "tuple") _ (fun v hm Q' hq => (hv v hm).type.here hq) (wpAny_pure ?_))))
    have hall : ((List.map (fun _ => Value.type "tuple") (v₁ :: v₂ :: rest)).toArray.all fun x => x == Value.type "tuple") = true := by
      simp only [List.all_toArray, List.all_map, List.all_eq_true]
      intro _ _
      rfl
    have h0 : (List.map (fun _ => Value.type "tuple") (v₁ :: v₂ :: rest)).toArray[0]? = some (Value.type "tuple") := by simp
    rw [h0]
    simp only [hall, if_true]
    exact wpAny_pure (wpAny_pure h)
theorem ti_cmp {vs : List Value} {k : Value → List Int} (hu : A.units < cLine) (hv : ∀ v ∈ vs, IsTI s.heap v (k v)) : SrtO.Cmp prog w A s oneType' (fun p => p.1 ∈ vs) (SrtO.lt2 fun v u => HT.lexLt (k v) (k u)) := by
  intro p q hp hq
  exact lt_ti (Q := fun r s' => s' = s ∧ r = HT.lexLt (k p.1) (k q.1)) (E := fun _ _ => False) hu (hv p.1 hp) (hv q.1 hq) ⟨rfl, rfl⟩
theorem ti_sortable {a : Addr} {vs : List Value} {k : Value → List Int} (h2 : 2 ≤ vs.length) (hu : A.units < cLine) (hv : ∀ v ∈ vs, IsTI s.heap v (k v)) (h1 : (vs.head?.map k) = some []) (ha : ∀ v ∈ vs, v ≠ .ref a) :
    SrtO.SortableO prog w A s a vs fun v u => HT.lexLt (k v) (k u) := by
  intro h' keep
  have hv' : ∀ v ∈ vs, IsTI h' v (k v) := fun v hm => (hv v hm).keeps fun b o e g => keep b o (fun z => ha v hm (by rw [e, z])) g
  refine ⟨oneType', fun Q E hq => ?_, ti_cmp (s := { s with heap := h' }) hu hv'⟩
  match vs, h2, hv', h1 with
  | v₁ :: v₂ :: rest, _, hv', h1 => exact kind_ti (s := { s with heap := h' }) (k := k) hv' (by simpa using h1) hq
end
section
variable {X : Cx}
/-- sorted(xs), xs a list of tuples of ints, the first one () -/
def rSortedTI (K : PySem.W.Frag) : List V → Hp → VK → Prop := fun vs H Q => ∃ (a : Addr) (ts : List Addr) (k : Addr → List Int), vs = [V.ref a] ∧ SqL K H a (ts.map V.ref) ∧ (∀ t ∈ ts, SqT K H t ((k t).map V.int)) ∧ (ts.head?.map k) = some [] ∧
  ∀ (ts' : List Addr) (p : Addr), ts'.Perm ts → ts'.Pairwise (fun p q => HT.lexLt (k q) (k p) = false) → H p = none → Q (.ref p) (upd H p (.lst (ts'.map V.ref)))
theorem cr_sortedTI (hu : X.A.units + 64 < cLine) : CallR X (.builtin "sorted") (rSortedTI X.K) := by
  intro pins s σ H vs us Q I r h
  obtain ⟨a, ts, k, rfl, hs, hx, h0, q⟩ := h
  obtain ⟨its, rv, hl, hz⟩ := I.list hs
  obtain ⟨u, rfl, ru⟩ := vals1 r
  obtain rfl : u = Value.ref a := ru
  have ei := nts_of rv
  have hv : ∀ u ∈ its, IsTI s.heap u (k (adO u)) := fun u hm => by
    rw [ei] at hm
    obtain ⟨t, ht, rfl⟩ := List.mem_map.mp hm
    obtain ⟨its2, r2, ⟨⟨cls, dd, data, sl⟩, ho, hc, n, hd⟩, hz2⟩ := I.tuple (hx t ht)
    simp only at hc hd
    subst hc hd
    exact ⟨t, dd, its2.toArray, n, sl, rfl, ho, (by simpa using ints_of_vals r2 : IntsAre its2.toArray.toList (k t))⟩
  have hh : its.head?.map (fun u => k (adO u)) = some [] := by
    rw [ei]
    cases ts with
    | nil => simp at h0
    | cons t ts => simpa [adO] using h0
  refine SrtO.sorted_ord (NtL.swo_lexL fun u => k (adO u)) hl.isList (by rw [← rv.length]; exact hz) (fun h2 h₁ b hb kk => ti_sortable (s := { s with heap := h₁ }) h2 (by simp only [Around.in1_units]; omega) (fun v hm => (hv v hm).keeps fun c o _ e => (kk c o e).2) hh fun v hm z => ?_) fun out h1 h2 => ?_
  · obtain ⟨c, dd, items, n, sl, e, g, i⟩ := hv v hm
    rw [e] at z
    exact (kk c _ g).1 (Value.ref.inj z)
  · have eo : out = (out.map adO).map Value.ref := ref_map fun u hm => by
      have hm' : u ∈ its := h2.perm.mem_iff.mp hm
      rw [ei] at hm'
      obtain ⟨t, _, e⟩ := List.mem_map.mp hm'
      exact ⟨t, e.symm⟩
    have hp : (out.map adO).Perm ts := by
      have p1 := h2.perm.map adO
      rw [ei, ad_map] at p1
      exact p1
    have hs' : (out.map adO).Pairwise (fun p q => HT.lexLt (k q) (k p) = false) := List.pairwise_map.mpr (h1.imp fun {x y} z => z)
    have hlen : ((out.map adO).map V.ref).length ≤ sizeLine := by
      rw [List.length_map, hp.length_eq]
      rw [List.length_map] at hz
      exact hz
    have rvo : Vals ((out.map adO).map V.ref) out := by
      have z := of_nts (out.map adO)
      rw [← eo] at z
      exact z
    obtain ⟨n, hn⟩ := sortedAll_at s.heap its out.toArray
    exact ⟨.ref (s.heap.objs.size + 1), upd H _ (.lst ((out.map adO).map V.ref)), I.laid (t' := s.toks) (fun b o e => sortedAll_old e) (Nat.le_succ _) ⟨hlen, out, n, rvo, hn⟩, rfl, q _ _ hp hs' (I.hok.fresh (Nat.le_succ _))⟩
end
end Pr
/-! sorted(list of tuples of ints): all are not empty, or the first one is empty, or there is at most one. -/
namespace Pr
open PySem PySem.Spec PyProof.Rows L2 PySem.W
theorem lexLt_lt : ∀ xs ys : List Int, HT.lexLt xs ys = decide (xs < ys)
  | [], [] => by simp [HT.lexLt]
  | [], y :: ys => by simp [HT.lexLt]
  | x :: xs, [] => by simp [HT.lexLt]
  | x :: xs, y :: ys => by
    rw [HT.lexLt_cons, lexLt_lt xs ys]
    by_cases e : x = y
    · subst e
      rw [if_pos rfl]
      exact decide_eq_decide.mpr (by simp [List.cons_lt_cons_iff])
    · rw [if_neg e]
      exact decide_eq_decide.mpr (by simp [List.cons_lt_cons_iff, e])
theorem lex_total (a b : List Int) : HT.lexLt a b = false ∨ HT.lexLt b a = false := by
  rw [lexLt_lt, lexLt_lt, decide_eq_false_iff_not, decide_eq_false_iff_not]
  by_cases h : a < b
  · exact .inr (List.lt_asymm h)
  · exact .inl h
theorem lex_trans {a b c : List Int} (h1 : HT.lexLt b a = false) (h2 : HT.lexLt c b = false) : HT.lexLt c a = false := by
  rw [lexLt_lt, decide_eq_false_iff_not] at *
  have h1 : a ≤ b := h1
  have h2 : b ≤ c := h2
  exact (List.le_trans h1 h2 : a ≤ c)
theorem lex_anti {a b : List Int} (h1 : HT.lexLt b a = false) (h2 : HT.lexLt a b = false) : a = b := by
  rw [lexLt_lt, decide_eq_false_iff_not] at *
  exact List.le_antisymm (show a ≤ b from h1) (show b ≤ a from h2)
/-- the ascending one of the same rows -/
def srtT (ks : List (List Int)) : List (List Int) := ks.mergeSort fun a b => !HT.lexLt b a
theorem srtT_perm (ks : List (List Int)) : (srtT ks).Perm ks := List.mergeSort_perm _ _
theorem srtT_up (ks : List (List Int)) : (srtT ks).Pairwise fun a b => HT.lexLt b a = false := by
  have := List.pairwise_mergeSort (le := fun a b : List Int => !HT.lexLt b a) (fun a b c h1 h2 => by simp at *; exact lex_trans h1 h2) (fun a b => by
    rcases lex_total a b with h | h <;> simp [h]) ks
  exact this.imp fun h => by simpa using h
theorem permT_eq : ∀ {l1 l2 : List (List Int)}, l1.Perm l2 → l1.Pairwise (fun a b => HT.lexLt b a = false) → l2.Pairwise (fun a b => HT.lexLt b a = false) → l1 = l2 := by
  intro l1
  induction l1 with
  | nil => intro l2 h _ _; exact (List.nil_perm.mp h).symm
  | cons x r ih =>
    intro l2 h h1 h2
    cases l2 with
    | nil => exact absurd h.symm (by simp)
    | cons y s =>
      rw [List.pairwise_cons] at h1 h2
      have hxy : x = y := by
        have hx : x ∈ y :: s := h.subset List.mem_cons_self
        have hy : y ∈ x :: r := h.symm.subset List.mem_cons_self
        rcases List.mem_cons.mp hx with e | e
        · exact e
        · rcases List.mem_cons.mp hy with e' | e'
          · exact e'.symm
          · exact lex_anti (h1.1 y e') (h2.1 x e)
      subst hxy
      rw [ih (List.Perm.cons_inv h) h1.2 h2.2]
theorem srtT_eq {l m : List (List Int)} (h : m.Perm l) (u : m.Pairwise fun a b => HT.lexLt b a = false) : srtT l = m := permT_eq ((srtT_perm l).trans h.symm) (srtT_up l) u
section
variable {X : Cx}
def rSortTup (K : PySem.W.Frag) : List V → Hp → VK → Prop := fun vs H Q => ∃ (a : Addr) (ts : List Addr) (k : Addr → List Int), vs = [V.ref a] ∧ SqL K H a (ts.map V.ref) ∧ (∀ t ∈ ts, SqT K H t ((k t).map V.int)) ∧ ((∀ t ∈ ts, k t ≠ []) ∨ (ts.head?.map k) = some []) ∧
  ∀ (ts' : List Addr) (p : Addr), ts'.Perm ts → ts'.Pairwise (fun p q => HT.lexLt (k q) (k p) = false) → H p = none → Q (.ref p) (upd H p (.lst (ts'.map V.ref)))
theorem each_map_ref {R : Value → Addr → Prop} : ∀ {out : List Value} {ts : List Addr}, EachIs (fun v t => v = Value.ref t) out ts → out = ts.map Value.ref
  | _, _, .nil => rfl
  | _, _, .cons e t => by rw [e, each_map_ref (R := R) t]; rfl
theorem cr_sortTup (hu : X.A.units + 64 < cLine) : CallR X (.builtin "sorted") (rSortTup X.K) := by
  intro pins s σ H vs us Q I r h
  obtain ⟨a, ts, k, rfl, hs, hx, h0, q⟩ := h
  rcases h0 with h0 | h0
  · obtain ⟨its, rv, hl, hz⟩ := I.list hs
    obtain ⟨u, rfl, ru⟩ := vals1 r
    obtain rfl : u = Value.ref a := ru
    have ei := nts_of rv
    have hlen : its.length = ts.length := by rw [← rv.length, List.length_map]
    have er : EachIs (fun v t => ∃ as, Reads s.heap v (.tuple ((k t).map PyData.int)) as) its ts := by
      rw [ei]
      have : ∀ (l : List Addr), (∀ t ∈ l, t ∈ ts) → EachIs (fun v t => ∃ as, Reads s.heap v (.tuple ((k t).map PyData.int)) as) (l.map Value.ref) l := fun l => by
        induction l with
        | nil => intro _; exact .nil
        | cons t l ih => intro hm; exact .cons (Dp.reads I _ _ _ (dp_ints (hx t (hm t List.mem_cons_self))) rfl) (ih fun x hx => hm x (List.mem_cons_of_mem _ hx))
      exact this ts fun _ h => h
    have e0 : EachIs (fun v t => v = Value.ref t) its ts := by
      rw [ei]
      have : ∀ (l : List Addr), EachIs (fun v t => v = Value.ref t) (l.map Value.ref) l := fun l => by
        induction l with
        | nil => exact .nil
        | cons t l ih => exact .cons rfl ih
      exact this ts
    refine sorted_data (enc := fun t => .tuple ((k t).map PyData.int)) hl.isList e0 er (fun d hd d' hd' => ?_) (.inl fun d hd => ?_) (by rw [List.length_map] at hz; exact hz) (fun b hb => ?_) fun out ol oe => ?_
    · obtain ⟨t, _, rfl⟩ := List.mem_map.mp hd
      obtain ⟨t', _, rfl⟩ := List.mem_map.mp hd'
      show alike (.tuple _) (.tuple _) = true
      simp only [alike]
      exact alike_ints _ _
    · obtain ⟨t, ht, rfl⟩ := List.mem_map.mp hd
      cases e : k t with
      | nil => exact absurd e (h0 t ht)
      | cons x r => exact ⟨.int x, r.map PyData.int, rfl⟩
    · show X.A.units + 2 + (PyData.tuple ((k b).map PyData.int)).depth < cLine
      simp only [PyData.depth, depth_ints]; omega
    · have eo := each_map_ref (R := fun _ _ => True) oe
      have le : dataLe false (fun t => PyData.tuple ((k t).map PyData.int)) = fun p q => !HT.lexLt (k q) (k p) := by
        funext p q
        show (!dataLt (.tuple ((k q).map .int)) (.tuple ((k p).map .int))) = _
        rw [dataLt_tuple]
        show (!rowLt ((k q).map .int) ((k p).map .int)) = _
        rw [dataLt_ints, lexLt_lt]
      have hp : (ts.mergeSort (dataLe false fun t => PyData.tuple ((k t).map PyData.int))).Perm ts := List.mergeSort_perm _ _
      have hs' : (ts.mergeSort (dataLe false fun t => PyData.tuple ((k t).map PyData.int))).Pairwise (fun p q => HT.lexLt (k q) (k p) = false) := by
        rw [le]
        have := List.pairwise_mergeSort (le := fun p q : Addr => !HT.lexLt (k q) (k p)) (fun a b c h1 h2 => by simp at *; exact lex_trans h1 h2) (fun a b => by rcases lex_total (k a) (k b) with h | h <;> simp [h]) ts
        exact this.imp fun h => by simpa using h
      have hl2 : ((ts.mergeSort (dataLe false fun t => PyData.tuple ((k t).map PyData.int))).map V.ref).length ≤ sizeLine := by
        rw [List.length_map, hp.length_eq]; rw [List.length_map] at hz; exact hz
      have rvo : Vals ((ts.mergeSort (dataLe false fun t => PyData.tuple ((k t).map PyData.int))).map V.ref) out := by
        rw [eo]; exact of_nts _
      obtain ⟨n, hn⟩ := sortedAll_at s.heap its out.toArray
      exact ⟨.ref (s.heap.objs.size + 1), upd H _ (.lst ((ts.mergeSort (dataLe false fun t => PyData.tuple ((k t).map PyData.int))).map V.ref)), I.laid (t' := s.toks) (fun b o e => sortedAll_old e) (Nat.le_succ _) ⟨hl2, out, n, rvo, hn⟩, rfl, q _ _ hp hs' (I.hok.fresh (Nat.le_succ _))⟩
  · exact cr_sortedTI hu pins s σ H [V.ref a] us Q I r ⟨a, ts, k, rfl, hs, hx, h0, q⟩
end
end Pr
/-! Dicts whose keys are tuples: a display of one pair; what a search holds. -/
namespace Pr
open PySem PySem.Spec PyProof.Rows L2
section
variable {X : Cx}
/-- {k: v}, k a tuple; the new dict stands empty while the pair is made -/
def tDispT (tk tv : TE) : TE := fun σ H Q => ∀ p, H p = none → tPairs [(tk, tv)] σ (upd H p (.dT [])) fun ps H2 => H2 p = some (.dT []) ∧ ∃ (y : V) (b : Addr) (ks : List Key), ps = [(V.ref b, y)] ∧ H2 b = some (.tup (ks.map kV)) ∧ Q (.ref p) (upd H2 p (.dT [(ks, y)]))
theorem pe_dispT {k v : Expr} {tk tv : TE} {pos : Pos} (hu : X.A.units + 1 < cLine) (hk : PE X k tk) (hv : PE X v tv) : PE X (.Dict [some k] [v] pos) (tDispT tk tv) := by
  refine ⟨fun pins s σ H Q I q => ?_⟩
  have hn := I.hok.fresh (Nat.le_refl s.heap.objs.size)
  have I1 := I.laid (a := s.heap.objs.size) (o := .dT []) (h' := s.heap.push { cls := .type "dict", data := .dict #[] }) (t' := s.toks) (fun _ _ q => Heap.get?_push_of_some _ q) (Nat.le_refl _) (dt_empty s.heap I.big)
  have e0 := zip_pairTrees [some k] [v] X.env pos rfl rfl
  rw [arm_eval_Dict, e0, dictDisplay_pairs _ (by simp [pairTrees]) (by simp [pairTrees])]
  refine wpAny_bind (wpAny_standAt (wpAny_bind (wpAny_subDictH (knd := tupleKind (mixKind X.prog X.w)) (show X.A.units < cLine by omega) (by simp [pairTrees]) ?_)))
  have hp : PPs X pos [some k] [v] [(tk, tv)] := pps_cons hk hv pps_nil
  refine thn (hp.run pins _ σ _ _ I1 (q _ hn)) fun ws s2 ⟨ps, H2, I2, rel, e, y, b, ks, ep, eb, q2⟩ => ?_
  subst ep
  cases rel with
  | @cons _ wv _ bs r1 r2 =>
    cases r2
    obtain ⟨w1, w2⟩ := wv
    obtain ⟨rb, ry⟩ := r1
    obtain rfl : w1 = Value.ref b := rb
    obtain ⟨z, hd, xs, rx, dd⟩ := dt_of I2.hok e
    cases rx
    refine ⟨[(ks, b, w2)], ⟨rfl, rfl, key_of I2.hok eb, trivial⟩, dd, fun h' tk' dd' hs => ?_⟩
    refine wpAny_pure ⟨.ref s.heap.objs.size, _, ?_, rfl, q2⟩
    obtain ⟨qo, es, epo, hq, h2, h3, h4, _, h5⟩ := dd'
    refine d_write I2 (by rw [e]; exact True.intro) hs ⟨qo, hq⟩ ⟨by show 1 ≤ sizeLine; decide, hd, _, .cons ⟨rfl, ?_, ry⟩ .nil, qo, es, epo, hq, h2, h3, h4, h5⟩
    rw [upd_ne (ne_of eb e (fun z => nomatch z))]
    exact eb
end
/-! ### what a search holds -/
def kInt (k : List Int) : List Key := k.map Sum.inl
theorem kInt_kV (k : List Int) : (kInt k).map kV = k.map V.int := by unfold kInt; rw [List.map_map]; rfl
theorem kInt_inj {a b : List Int} (h : kInt a = kInt b) : a = b := by
  have := congrArg (List.map kV) h
  rw [kInt_kV, kInt_kV] at this
  exact List.map_inj_right (fun x y h => V.int.inj h) |>.mp this
theorem val_zip {κ : Type} [DecidableEq κ] : ∀ {ks : List κ} {vs : List V} {i : Nat} {k : κ} {v : V}, ks.Nodup → ks[i]? = some k → vs[i]? = some v → valV (ks.zip vs) k = some v
  | [], _, _, _, _, _, h, _ => by simp at h
  | _ :: _, [], _, _, _, _, _, h => by simp at h
  | a :: ks, b :: vs, 0, k, v, nd, h1, h2 => by
    simp at h1 h2; subst h1 h2
    rw [List.zip_cons_cons]; exact valV_pos rfl
  | a :: ks, b :: vs, i + 1, k, v, nd, h1, h2 => by
    rw [List.nodup_cons] at nd
    have h1' : ks[i]? = some k := by simpa using h1
    rw [List.zip_cons_cons, valV_neg (fun e => nd.1 (by rw [show a = k from e]; exact List.mem_of_getElem? h1'))]
    exact val_zip nd.2 h1' (by simpa using h2)
theorem val_zip_none {κ : Type} [DecidableEq κ] : ∀ {ks : List κ} {vs : List V} {k : κ}, k ∉ ks → valV (ks.zip vs) k = none
  | [], _, _, _ => rfl
  | _ :: _, [], _, _ => by rw [List.zip_nil_right]; rfl
  | a :: ks, b :: vs, k, h => by
    rw [List.zip_cons_cons, valV_neg (fun e => h (by rw [show a = k from e]; exact List.mem_cons_self))]
    exact val_zip_none fun z => h (List.mem_cons_of_mem _ z)
/-- the dict of the things found, each with its row -/
def DictB (K : PySem.W.Frag) (H : Hp) (d : Addr) (L : BL (List Key)) : Prop := ∃ vs, H d = some (.dT ((L.map (·.1)).zip vs)) ∧ DpAll K H vs (L.map fun x => dInts x.2)
theorem DictB.same {K : PySem.W.Frag} {H H' : Hp} {d : Addr} {L : BL (List Key)} (h : DictB K H d L) (s : Same H H') : DictB K H' d L := let ⟨vs, e, dv⟩ := h; ⟨vs, s _ _ e, dv.sm s⟩
theorem DictB.get {K : PySem.W.Frag} {H : Hp} {d a : Addr} {L : BL (List Key)} {i : Nat} {x : List Key × List Int} (h : DictB K H d L) (nd : (L.map (·.1)).Nodup) (hx : L[i]? = some x) (ea : H a = some (.tup (x.1.map kV))) : ∃ v, DGet H d (.ref a) (some v) ∧ Dp K H v (dInts x.2) := by
  obtain ⟨vs, e, dv⟩ := h
  obtain ⟨v, hv, dx⟩ := dv.get i (dInts x.2) (by rw [List.getElem?_map, hx]; rfl)
  refine ⟨v, ?_, dx⟩
  have := DGet.t (k := x.1) e ea
  rwa [val_zip nd (by rw [List.getElem?_map, hx]; rfl) hv] at this
theorem DictB.none {K : PySem.W.Frag} {H : Hp} {d a : Addr} {L : BL (List Key)} {k : List Key} (h : DictB K H d L) (hk : k ∉ L.map (·.1)) (ea : H a = some (.tup (k.map kV))) : DGet H d (.ref a) none := by
  obtain ⟨vs, e, dv⟩ := h
  have := DGet.t (k := k) e ea
  rwa [val_zip_none hk] at this
theorem DictB.some {K : PySem.W.Frag} {H : Hp} {d a : Addr} {L : BL (List Key)} {k : List Key} (h : DictB K H d L) (nd : (L.map (·.1)).Nodup) (hk : k ∈ L.map (·.1)) (ea : H a = some (.tup (k.map kV))) : ∃ v, DGet H d (.ref a) (some v) := by
  obtain ⟨x, hx, rfl⟩ := List.mem_map.mp hk
  obtain ⟨i, hi⟩ := List.getElem?_of_mem hx
  obtain ⟨v, g, _⟩ := h.get nd hi ea
  exact ⟨v, g⟩
/-- the heap but for what stands at d and at l -/
def But2 (d l : Addr) (H H' : Hp) : Prop := ∀ b o, b ≠ d → b ≠ l → H b = some o → H' b = some o
theorem kp_dT {H : Hp} {d : Addr} {kvs : List (List Key × V)} {o : HO} (h : H d = some (.dT kvs)) : Kp H (upd H d o) :=
  ⟨fun b ys e => by rw [upd_ne (ne_of e h (by intro z; cases z))]; exact e, fun b q u e => by rw [upd_ne (ne_of e h (by intro z; cases z))]; exact e⟩
theorem lf_rows {L : BL (List Key)} : lfAll (L.map fun x => dInts x.2) = true := lfAll_of fun d hd => by
  obtain ⟨x, _, rfl⟩ := List.mem_map.mp hd
  exact lf_ints _
/-- a new thing is put into it -/
theorem DictB.put {K : PySem.W.Frag} {H : Hp} {d a : Addr} {L : BL (List Key)} {k : List Key} {r : List Int} {v : V} (h : DictB K H d L) (hk : k ∉ L.map (·.1)) (ea : H a = .some (.tup (k.map kV))) (dv : Dp K H v (dInts r)) (hl : L.length < 100000) :
    ∃ H', DPut H d (.ref a) v H' ∧ DictB K H' d (L ++ [(k, r)]) ∧ Kp H H' ∧ ∀ b o, b ≠ d → H b = .some o → H' b = .some o := by
  obtain ⟨vs, e, dvs⟩ := h
  have lv : vs.length = L.length := by rw [dvs.length, List.length_map]
  refine ⟨_, DPut.t (k := k) (v := v) e ea (by rw [List.length_zip, List.length_map, lv, Nat.min_self]; exact small5 (by omega)), ?_, kp_dT e, fun b o hb eb => by rw [upd_ne hb]; exact eb⟩
  rw [putK_new v (val_zip_none hk)]
  refine ⟨vs ++ [v], ?_, ?_⟩
  · rw [upd_same, List.map_append, List.zip_append (by rw [List.length_map, lv])]; rfl
  · refine dpAll_kp (kp_dT e) _ _ lf_rows ?_
    rw [List.map_append]
    exact DpAll.append dvs (.cons dv .nil)
end Pr
/-! What repr writes of tuples of ints is a text of plain signs. -/
namespace Pr
open PySem PySem.Spec PyProof.Rows L2
theorem ok_app {a b : Str} (ha : PyData.strOk a = true) (hb : PyData.strOk b = true) : PyData.strOk (a ++ b) = true := by
  unfold PyData.strOk at ha hb ⊢
  show (a.cps ++ b.cps).all _ = true
  rw [Array.all_append, ha, hb]; rfl
theorem ok_of (s : String) : PyData.strOk (Str.ofString s) = true := by
  unfold PyData.strOk
  rw [Str.ofString_eq_toList, Array.all_eq_true_iff_forall_mem]
  intro x hx
  rw [List.mem_toArray, List.mem_map] at hx
  obtain ⟨c, _, rfl⟩ := hx
  rw [decide_eq_true_eq]
  have := c.valid
  rcases this with h | h
  · exact Nat.lt_trans h (by decide)
  · exact h.2
theorem ok_join {sep : Str} (hs : PyData.strOk sep = true) : ∀ {ts : List Str}, (∀ t ∈ ts, PyData.strOk t = true) → PyData.strOk (Str.join sep ts) = true
  | [], _ => by show PyData.strOk Str.empty = true; decide +kernel
  | [x], h => h x List.mem_cons_self
  | x :: y :: r, h => by
    show PyData.strOk (x ++ sep ++ Str.join sep (y :: r)) = true
    exact ok_app (ok_app (h x List.mem_cons_self) hs) (ok_join hs fun t ht => h t (List.mem_cons_of_mem _ ht))
theorem ok_ints (l : List Int) : PyData.strOk (dInts l).shown = true := by
  unfold dInts
  simp only [PyData.shown]
  rw [shownAll_map]
  unfold tupleText
  refine ok_app (ok_app (ok_of "(") (ok_join (ok_of ", ") fun t ht => ?_)) ?_
  · rw [List.map_map] at ht
    obtain ⟨i, _, rfl⟩ := List.mem_map.mp ht
    show PyData.strOk (PyData.shown (.int i)) = true
    simp only [PyData.shown]
    exact ok_of _
  · split
    · exact ok_of ",)"
    · exact ok_of ")"
theorem lay_strs {x y : Str} (hx : PyData.strOk x = true) (hy : PyData.strOk y = true) : (PyData.list [.str x, .str y]).canLay0 = true := by
  simp only [PyData.canLay0, PyData.canLayAll0, hx, hy, Bool.and_self]
theorem shp_of {d : PyData} (h : d.canLay0 = true) (hd : d.depth ≤ 64) : SeqAt.shaped d = true := by
  unfold SeqAt.shaped
  rw [h, decide_eq_true hd]; rfl
end Pr
/-! New tuples that may be keys; searches over states; sorted rows as data. -/
namespace Pr
open PySem PySem.Spec PyProof.Rows L2
/-- a new tuple -/
def GvU (K : PySem.W.Frag) (t : TE) (σ : L2.St) (H : Hp) (ds : List PyData) : Prop := ∀ H1, Same H H1 → ∀ Q : VK, (∀ a vs H', Same H1 H' → H1 a = none → H' a = some (.tup vs) → DpAll K H' vs ds → Q (.ref a) H') → t σ H1 Q
section
variable {K : PySem.W.Frag} {σ : L2.St} {H : Hp} {t ta tb : TE} {d e : PyData} {ds es : List PyData}
theorem GvU.at (h : GvU K t σ H ds) {Q : VK} (q : ∀ a vs H', Same H H' → H a = none → H' a = some (.tup vs) → DpAll K H' vs ds → Q (.ref a) H') : t σ H Q := h H (Same.refl _) Q q
theorem GvU.gv (h : GvU K t σ H ds) : Gv K t σ H (.tuple ds) := fun H1 s Q q => h H1 s Q fun a vs H' s' _ e dv => q _ H' s' (.tup (.inl (.inl e)) dv)
theorem gu_tupL (h : Gv K t σ H (.list ds)) : GvU K (tCB (rTupG K) (tCons t tNil)) σ H ds := fun H1 s Q q => h H1 s _ fun v H2 s2 d2 => by
  obtain ⟨a, xs, rfl, hq, hr⟩ := d2.lstI
  exact ⟨a, xs, rfl, .inl ⟨hq, fun l nl => q _ _ _ (s2.trans (same_new nl)) (s2.free nl) upd_same (hr.sm (same_new nl))⟩⟩
theorem gu_tup {ta' : TA} (h : GvA K ta' σ H ds) (hl : ds.length ≤ sizeLine := by first | decide | exact Nat.le_of_lt (small5 (by simp only [List.length_cons, List.length_nil]; decide))) : GvU K (tTup ta') σ H ds := fun H1 s Q q => h H1 s _ fun vs H2 s2 d2 =>
  ⟨by rw [d2.length]; exact hl, fun p np => q _ _ _ (s2.trans (same_new np)) (s2.free np) upd_same (d2.sm (same_new np))⟩
theorem gu_tupRg {n : Nat} (h : Gv K t σ H (.int n)) (hn : n ≤ 100000) : GvU K (tTupRg (tRg1 t)) σ H ((intL n).map PyData.int) := fun H1 s Q q => h H1 s _ fun v H2 s2 d2 => by
  cases d2
  refine ⟨_, rfl, ⟨by omega, by omega, by omega, by omega, ?_⟩, fun p np => q _ _ _ (s2.trans (same_new np)) (s2.free np) upd_same ?_⟩
  · have := small5 hn; omega
  · rw [rgV_intL]; exact dpAll_ints _
end
/-! ### t * k, t of one item -/
section
variable {X : Cx}
def rRepA (K : PySem.W.Frag) : R2 := fun x y H Q => ∃ (l : Addr) (v : V) (k : Nat), x = .ref l ∧ y = .int (k : Int) ∧ SqT K H l [v] ∧ k ≤ 1000 ∧ ∀ p H', Same H H' → SqT K H' p (List.replicate k v) → Q (.ref p) H'
theorem rep_flatA {v : V} : ∀ k : Nat, (List.replicate k [v]).flatten = List.replicate k v
  | 0 => rfl
  | k + 1 => by rw [List.replicate_succ, List.flatten_cons, rep_flatA k]; rfl
theorem op_repA : OpR X (binaryOp .Mult) (rRepA X.K) := by
  intro pins s σ H x y v u Q I rx ry h
  obtain ⟨l, z, k, rfl, rfl, hT, hk, q⟩ := h
  match k, hk, q, ry with
  | 0, _, q, ry => exact op_rep1 pins s σ H _ _ v u Q I rx ry ⟨l, z, rfl, hT, .inr ⟨rfl, fun p np => q p _ (same_new np) (.inl (.inl upd_same))⟩⟩
  | 1, _, q, ry => exact op_rep1 pins s σ H _ _ v u Q I rx ry ⟨l, z, rfl, hT, .inl ⟨rfl, q l H (Same.refl _) hT⟩⟩
  | k + 2, hk, q, ry => exact op_repT pins s σ H _ _ v u Q I rx ry ⟨l, ((k + 2 : Nat) : Int), [z], rfl, rfl, hT, by simp, by omega, by omega, (by show 1 ≤ 1000; decide), fun p np => q p _ (same_new np) (.inl (.inl (by rw [upd_same, Int.toNat_natCast, rep_flatA])))⟩
theorem gv_repA {K : PySem.W.Frag} {σ : L2.St} {H : Hp} {ta tb : TE} {d : PyData} {k : Nat} (ha : Gv K ta σ H (.tuple [d])) (hb : Gv K tb σ H (.int (k : Int))) (hk : k ≤ 1000) : Gv K (tOp (rRepA K) ta tb) σ H (.tuple (List.replicate k d)) :=
  gv_op2 ha hb fun x y H1 Q s hx hy q => by
    cases hy
    obtain ⟨a, xs, rfl, hq, hr⟩ := hx.tupI
    obtain ⟨v, rfl, dv⟩ := dpAll1 hr
    refine ⟨a, v, k, rfl, rfl, hq, hk, fun p H' s' hp => q _ _ s' (.tup hp ?_)⟩
    have : ∀ m, DpAll K H' (List.replicate m v) (List.replicate m d) := fun m => by
      induction m with
      | zero => exact .nil
      | succ m ih => exact .cons (dv.sm s') ih
    exact this k
/-! ### sorted(list of rows) -/
def rSortTP (K : PySem.W.Frag) : List V → Hp → VK → Prop := fun vs H Q => ∃ (a : Addr) (ts : List (Addr × List Int)), vs = [V.ref a] ∧ SqL K H a (ts.map fun p => V.ref p.1) ∧ (∀ p ∈ ts, SqT K H p.1 (p.2.map V.int)) ∧ ((∀ p ∈ ts, p.2 ≠ []) ∨ (ts.head?.map (·.2)) = some []) ∧
  ∀ (ts' : List (Addr × List Int)) (p : Addr), ts'.Perm ts → ts'.Pairwise (fun p q => HT.lexLt q.2 p.2 = false) → H p = none → Q (.ref p) (upd H p (.lst (ts'.map fun p => V.ref p.1)))
theorem cr_sortTP (hu : X.A.units + 64 < cLine) : CallR X (.builtin "sorted") (rSortTP X.K) := by
  intro pins s σ H vs us Q I r h
  obtain ⟨a, ts, rfl, hs, hx, h0, q⟩ := h
  have uq : ∀ p ∈ ts, ∀ p' ∈ ts, p.1 = p'.1 → p.2 = p'.2 := fun p hp p' hp' e => by
    have h1 := hx p hp
    have h2 := hx p' hp'
    rw [← e] at h2
    have := I.tuple_inj h1 h2
    exact List.map_inj_right (fun x y h => V.int.inj h) |>.mp this
  have hk : ∀ p ∈ ts, ((ts.find? fun z => decide (z.1 = p.1)).map (·.2)).getD [] = p.2 := fun p hp => by
    cases e : ts.find? fun z => decide (z.1 = p.1) with
    | none => have := List.find?_eq_none.mp e p hp; simp at this
    | some z =>
      have h1 := List.mem_of_find?_eq_some e
      have h2 : z.1 = p.1 := by simpa using List.find?_some e
      exact uq z h1 p hp h2
  have et : (ts.map (·.1)).map (fun t => (t, ((ts.find? fun z => decide (z.1 = t)).map (·.2)).getD [])) = ts := by
    rw [List.map_map]
    conv => rhs; rw [← List.map_id ts]
    exact List.map_congr_left fun p hp => by simp only [Function.comp]; rw [hk p hp]; rfl
  refine cr_sortTup hu pins s σ H _ us Q I r ⟨a, ts.map (·.1), fun t => ((ts.find? fun z => decide (z.1 = t)).map (·.2)).getD [], rfl, by rw [List.map_map]; exact hs, fun t ht => ?_, ?_, fun ts' p hp hu' np => ?_⟩
  · obtain ⟨p, hp, rfl⟩ := List.mem_map.mp ht
    have := hk p hp
    dsimp only
    rw [this]; exact hx p hp
  · rcases h0 with h0 | h0
    · refine .inl fun t ht => ?_
      obtain ⟨p, hp, rfl⟩ := List.mem_map.mp ht
      have := hk p hp
      dsimp only
      rw [this]; exact h0 p hp
    · refine .inr ?_
      cases ts with
      | nil => simp at h0
      | cons p ts =>
        have := hk p List.mem_cons_self
        rw [List.map_cons, List.head?_cons, Option.map_some, this]
        simpa using h0
  · have := q (ts'.map fun t => (t, ((ts.find? fun z => decide (z.1 = t)).map (·.2)).getD [])) p (by have := hp.map (fun t => (t, ((ts.find? fun z => decide (z.1 = t)).map (·.2)).getD [])); rwa [et] at this) (by rw [List.pairwise_map]; exact hu') np
    rw [List.map_map] at this
    exact this
end
theorem pairs_of {K : PySem.W.Frag} {H : Hp} : ∀ {ks : List (List Int)} {vs : List V}, DpAll K H vs (ks.map dInts) → ∃ ts : List (Addr × List Int), vs = ts.map (fun p => V.ref p.1) ∧ ks = ts.map (·.2) ∧ ∀ p ∈ ts, SqT K H p.1 (p.2.map V.int)
  | [], _, h => by cases h; exact ⟨[], rfl, rfl, fun _ h => by cases h⟩
  | k :: ks, _, h => by
    rw [List.map_cons] at h
    cases h with
    | cons x y =>
      obtain ⟨a, rfl, hq⟩ := x.intsI
      obtain ⟨ts, rfl, rfl, hh⟩ := pairs_of y
      refine ⟨(a, k) :: ts, rfl, rfl, fun p hp => ?_⟩
      rcases List.mem_cons.mp hp with rfl | hp
      · exact hq
      · exact hh p hp
theorem gn_sortT {K : PySem.W.Frag} {σ : L2.St} {H : Hp} {t : TE} {ks : List (List Int)} (h : Gv K t σ H (.list (ks.map dInts))) (h0 : (∀ k ∈ ks, k ≠ []) ∨ ks.head? = some []) : GvN K (tCB (rSortTP K) (tCons t tNil)) σ H ((srtT ks).map dInts) := fun H1 s Q q => h H1 s _ fun v H2 s2 d2 => by
  obtain ⟨a, xs, rfl, hq, hr⟩ := d2.lstI
  obtain ⟨ts, rfl, rfl, hh⟩ := pairs_of hr
  refine ⟨a, ts, rfl, hq, hh, ?_, fun ts' p hp hu np => ?_⟩
  · rcases h0 with h0 | h0
    · exact .inl fun p hp => h0 _ (List.mem_map.mpr ⟨p, hp, rfl⟩)
    · exact .inr (by rw [← List.head?_map]; exact h0)
  · have e : srtT (ts.map (·.2)) = ts'.map (·.2) := srtT_eq (hp.map _) (by rw [List.pairwise_map]; exact hu)
    refine q _ _ _ (s2.trans (same_new np)) (s2.free np) upd_same ?_
    rw [e]
    have : ∀ (l : List (Addr × List Int)), (∀ p ∈ l, p ∈ ts) → DpAll K H2 (l.map fun p => V.ref p.1) ((l.map (·.2)).map dInts) := fun l => by
      induction l with
      | nil => intro _; exact .nil
      | cons z l ih => intro hm; exact .cons (dp_ints (hh z (hm z List.mem_cons_self))) (ih fun x hx => hm x (List.mem_cons_of_mem _ hx))
    exact (this ts' fun p hp' => hp.subset hp').sm (same_new np)
/-! ### states as things -/
def unK (k : List Key) : List Int := k.map fun x => match x with | .inl i => i | .inr _ => 0
theorem unK_kInt (l : List Int) : unK (kInt l) = l := by unfold unK kInt; rw [List.map_map]; exact List.map_id l
def stepP (pan : List (List Int)) (k : List Key) (b : Nat) : List Key := kInt (pressM pan (unK k) (b : Int))
def PKs (n : Nat) (k : List Key) : Prop := ∃ st, k = kInt st ∧ Asc n st
theorem pks_step {pan : List (List Int)} {k : List Key} {b : Nat} (h : PKs pan.length k) : PKs pan.length (stepP pan k b) := ⟨_, rfl, pressM_asc _ _ _⟩
theorem bfs_few {pan : List (List Int)} (few : pan.length ≤ 10) {k : List Key} (h : PKs pan.length k) (i : Nat) : (bfsN (stepP pan) pan.length k i).length ≤ 1024 := by
  have nd := bfs_nd (step := stepP pan) (n := pan.length) (s := k) i
  have hp := bfs_all (P := PKs pan.length) (step := stepP pan) (n := pan.length) h (fun k b hk _ => pks_step hk) i
  have := few_states (n := pan.length) (ks := (bfsN (stepP pan) pan.length k i).map fun x => unK x.1) ?_ ?_
  · rw [List.length_map] at this
    exact Nat.le_trans this (Nat.pow_le_pow_right (by decide) few)
  · rw [List.nodup_iff_pairwise_ne, List.pairwise_map]
    rw [List.nodup_iff_pairwise_ne, List.pairwise_map] at nd
    refine List.Pairwise.imp_of_mem ?_ nd
    intro x y hx hy ne e
    obtain ⟨a, ea, _⟩ := hp x hx
    obtain ⟨b, eb, _⟩ := hp y hy
    rw [ea, eb, unK_kInt, unK_kInt] at e
    exact ne (by rw [ea, eb, e])
  · intro z hz
    obtain ⟨x, hx, rfl⟩ := List.mem_map.mp hz
    obtain ⟨a, ea, ha⟩ := hp x hx
    rw [ea, unK_kInt]; exact ha
/-- the states that are reached, in the order in which they are found -/
def foundM (pan : List (List Int)) (st : List Int) : BL (List Key) := bfsN (stepP pan) pan.length (kInt st) 1024
def reachM (pan : List (List Int)) (st : List Int) : List (List Int) := (foundM pan st).map fun x => unK x.1
theorem reach_asc {pan : List (List Int)} {st : List Int} (h : Asc pan.length st) : ∀ k ∈ reachM pan st, Asc pan.length k := fun k hk => by
  obtain ⟨x, hx, rfl⟩ := List.mem_map.mp hk
  obtain ⟨a, ea, ha⟩ := bfs_all (P := PKs pan.length) (step := stepP pan) (n := pan.length) ⟨st, rfl, h⟩ (fun k b hk _ => pks_step hk) 1024 x hx
  rw [ea, unK_kInt]; exact ha
theorem reach_len {pan : List (List Int)} (few : pan.length ≤ 10) {st : List Int} (h : Asc pan.length st) : (reachM pan st).length ≤ 1024 := by
  unfold reachM; rw [List.length_map]; exact bfs_few few ⟨st, rfl, h⟩ 1024
theorem found_key {pan : List (List Int)} {st : List Int} (h : Asc pan.length st) : ∀ x ∈ foundM pan st, kInt (unK x.1) = x.1 := fun x hx => by
  obtain ⟨a, ea, ha⟩ := bfs_all (P := PKs pan.length) (step := stepP pan) (n := pan.length) ⟨st, rfl, h⟩ (fun k b hk _ => pks_step hk) 1024 x hx
  rw [ea, unK_kInt]
theorem reach_sortable {pan : List (List Int)} {st : List Int} (h : Asc pan.length st) : (∀ k ∈ reachM pan st, k ≠ []) ∨ (reachM pan st).head? = some [] := by
  have pre := bfs_pre (step := stepP pan) (n := pan.length) (s := kInt st) (Nat.zero_le 1024)
  have h0 : (reachM pan st).head? = some st := by
    obtain ⟨t, ht⟩ := pre
    unfold reachM foundM
    rw [← ht]
    show some (unK (kInt st)) = some st
    rw [unK_kInt]
  by_cases e : st = []
  · right; rw [h0, e]
  · left
    intro k hk
    obtain ⟨x, hx, rfl⟩ := List.mem_map.mp hk
    have := bfs_all (P := fun k => unK k ≠ []) (step := stepP pan) (n := pan.length) (s := kInt st) (by rw [unK_kInt]; exact e) (fun k b _ hb => by
      show unK (kInt (pressM pan (unK k) (b : Int))) ≠ []
      rw [unK_kInt]
      intro z
      have : (b : Int) ∈ pressM pan (unK k) (b : Int) := mem_pressM.mpr ⟨⟨by omega, by omega⟩, .inl rfl⟩
      rw [z] at this; cases this) 1024 x hx
    exact this
end Pr
/-! Dicts of states as answers; their keys, sorted. -/
namespace Pr
open PySem PySem.Spec PyProof.Rows L2
def rListT (K : PySem.W.Frag) : List V → Hp → VK → Prop := fun xs H Q => ∃ d kvs, xs = [V.ref d] ∧ Rd H d (.dT kvs) ∧ ∀ p bs, H p = none → IsKeys H kvs bs → Q (.ref p) (upd H p (.lst (bs.map V.ref)))
theorem cr_listT {X : Cx} (hc : X.calm = true) : CallR X (.type "list") (rListT X.K) := call_list_dT hc
/-- a dict of rows -/
def GvDB (K : PySem.W.Frag) (t : TE) (σ : L2.St) (H : Hp) (L : BL (List Key)) : Prop := ∀ H1, Same H H1 → ∀ Q : VK, (∀ d H', Same H1 H' → DictB K H' d L → Q (.ref d) H') → t σ H1 Q
theorem keys_dp {K : PySem.W.Frag} {H : Hp} : ∀ {L : BL (List Key)} {vs : List V} {bs : List Addr}, vs.length = L.length → (∀ x ∈ L, kInt (unK x.1) = x.1) → IsKeys H ((L.map (·.1)).zip vs) bs → DpAll K H (bs.map V.ref) (L.map fun x => dInts (unK x.1))
  | [], [], _, _, _, h => by cases h; exact .nil
  | x :: L, v :: vs, _, hl, hk, h => by
    unfold IsKeys at h
    rw [List.map_cons, List.zip_cons_cons] at h
    cases h with
    | cons e t =>
      refine .cons (dp_ints (.inl (.inl ?_))) (keys_dp (by simpa using hl) (fun y hy => hk y (List.mem_cons_of_mem _ hy)) t)
      dsimp only at e
      rw [e, ← kInt_kV, hk x List.mem_cons_self]
theorem gv_listT {K : PySem.W.Frag} {σ : L2.St} {H : Hp} {t : TE} {L : BL (List Key)} (h : GvDB K t σ H L) (hk : ∀ x ∈ L, kInt (unK x.1) = x.1) : Gv K (tCB (rListT K) (tCons t tNil)) σ H (.list (L.map fun x => dInts (unK x.1))) := fun H1 s Q q => h H1 s _ fun d H2 s2 hd => by
  obtain ⟨vs, e, dv⟩ := hd
  refine ⟨d, _, rfl, .inl e, fun p bs np hb => q _ _ (s2.trans (same_new np)) (.lst (.inl (.inl upd_same)) ((keys_dp ?_ hk hb).sm (same_new np)))⟩
  rw [dv.length, List.length_map]
/-- the states that are reached, sorted, as data -/
def dReach (pan : List (List Int)) (st : List Int) : PyData := .tuple ((srtT (reachM pan st)).map dInts)
theorem gv_reach {K : PySem.W.Frag} {σ : L2.St} {H : Hp} {t : TE} {pan : List (List Int)} {st : List Int} (h : GvDB K t σ H (foundM pan st)) (hst : Asc pan.length st) : Gv K (tCB (rTupG K) (tCons (tCB (rSortTP K) (tCons (tCB (rListT K) (tCons t tNil)) tNil)) tNil)) σ H (dReach pan st) := by
  refine gv_tupL (gn_sortT ((gv_listT h (found_key hst)).to ?_) (reach_sortable hst)).gv
  unfold reachM; rw [List.map_map]; rfl
theorem srt_reach_asc {pan : List (List Int)} {st : List Int} (hst : Asc pan.length st) : ∀ k ∈ srtT (reachM pan st), Asc pan.length k := fun k hk => reach_asc hst k ((srtT_perm _).subset hk)
theorem shw_reach {pan : List (List Int)} {st : List Int} (few : pan.length ≤ 10) (hst : Asc pan.length st) : Shw 60 sizeLine (dReach pan st) := by
  refine (Shw.tuple (dep := 1) (n := 33) (m := 1024) (ds := (srtT (reachM pan st)).map dInts) (fun d hd => ?_) ?_).mono (by decide) (by decide)
  · obtain ⟨k, hk, rfl⟩ := List.mem_map.mp hd
    have ha := srt_reach_asc hst k hk
    have := ha.len
    exact shw_ints (m := 10) (by omega) fun x hx => by have := ha.rng x hx; omega
  · rw [List.length_map, (srtT_perm _).length_eq]; exact reach_len few hst
theorem ok_tupT {ds : List PyData} (h : ∀ d ∈ ds, PyData.strOk d.shown = true) : PyData.strOk (PyData.tuple ds).shown = true := by
  simp only [PyData.shown]
  unfold tupleText
  refine ok_app (ok_app (ok_of "(") (ok_join (ok_of ", ") fun t ht => ?_)) ?_
  · rw [shownAll_map] at ht
    obtain ⟨d, hd, rfl⟩ := List.mem_map.mp ht
    exact h d hd
  · split
    · exact ok_of ",)"
    · exact ok_of ")"
theorem ok_reach {pan : List (List Int)} {st : List Int} : PyData.strOk (dReach pan st).shown = true := ok_tupT fun d hd => by
  obtain ⟨k, _, rfl⟩ := List.mem_map.mp hd
  exact ok_ints k
theorem shaped_two {x : Str} (h : PyData.strOk x = true) : SeqAt.shaped (.list [.str x, .str x]) = true := shp_of (lay_strs h h) (by simp [PyData.depth, PyData.depthAll])
theorem two_same {x : Str} (h : PyData.strOk x = true) : PyData.eqv (.list [.str x, .str x]) (.list [.str x, .str x]) = true := SeqAt.eqv_refl _ (lay_strs h h)
/-- [repr(..) for _ in range(2)] != [due, due] is false -/
theorem gvt_twice {K : PySem.W.Frag} {σ : L2.St} {H : Hp} {te tb : TE} {i : Nat} {x : Str} (h : ∀ v H', Same H H' → Gv K te ((σ.set i none).set i (some v)) H' (.str x)) (hb : Gv K tb σ H (.list [.str x, .str x])) (hx : PyData.strOk x = true) :
    GvT (tTest (tOp (rNeD K) (tLc (iRng1 (tCons (tC (.int 2)) tNil)) (gName i) tYes te [i]) tb)) σ H false := by
  refine (gvt_test (gv_neD (d := .list [.str x, .str x]) ((gv_lc (i := i) (p := fun _ => true) (f := fun _ => PyData.str x) (gvi_range (n := 2) gv_int (by decide)) (fun z vz Hz hz sz dz => ⟨gvt_yes, fun _ => h vz Hz sz⟩) (fun _ _ => rfl) (by decide)).to rfl) hb (shaped_two hx) (shaped_two hx))).to ?_
  rw [two_same hx]; rfl
theorem dPan_pad (pan : List (List Int)) (k : Nat) : PyData.tuple (pan.map dInts ++ List.replicate k (.tuple [])) = dPan (pan ++ List.replicate k []) := by
  unfold dPan; rw [List.map_append, List.map_replicate]; rfl
end Pr
/-! get of a dict of rows; repr of None or rows; bools compared. -/
namespace L2
theorem Room.u1 {k : Nat} {A : PySem.Around} (r : Room k A) : A.units + 1 < PySem.cLine := Nat.lt_of_le_of_lt (Nat.add_le_add_left (show 1 ≤ 64 by decide) _) r.units
end L2
namespace Pr
open PySem PySem.Spec PyProof.Rows L2
def rReprN (K : PySem.W.Frag) : List V → Hp → VK → Prop := fun xs H Q => rRepr K xs H Q ∨ (xs = [.non] ∧ Q (.str (PyData.shown .none)) H)
theorem shq_none : Shq 60 sizeLine .none := ⟨by simp only [PyData.showable], by simp [PyData.depth], by simp only [PyData.shown]; decide⟩
theorem cr_reprN {X : Cx} {k : Nat} (gd : X.A.guards = some []) (hr : Room k X.A) : CallR X (.builtin "repr") (rReprN X.K) := by
  intro pins s σ H xs us Q I rv h
  rcases h with h | ⟨rfl, q⟩
  · exact call_repr gd hr pins s σ H xs us Q I rv h
  · exact call_reprQ gd hr pins s σ H _ us Q I rv ⟨fun _ => False, .non, .none, rfl, .non, shq_none, q⟩
section
variable {K : PySem.W.Frag} {σ : L2.St} {H : Hp} {t ta tb : TE} {d e : PyData}
/-- what repr takes -/
def RepOk (d : PyData) : Prop := d = .none ∨ (Shw 60 sizeLine d ∧ ∃ ds, d = .tuple ds ∨ d = .list ds)
theorem gv_reprN (h : Gv K t σ H d) (hd : RepOk d) : Gv K (tCB (rReprN K) (tCons t tNil)) σ H (.str d.shown) := by
  rcases hd with rfl | ⟨hs, hr⟩
  · exact gv_cb (gva_cons h gva_nil) fun vs H1 Q s hd' q => by
      obtain ⟨v, rfl, hv⟩ := dpAll1 hd'
      cases hv
      exact .inr ⟨rfl, q _ _ (Same.refl _) (.str _)⟩
  · exact gv_cb (gva_cons h gva_nil) fun vs H1 Q s hd' q => by
      obtain ⟨v, rfl, hv⟩ := dpAll1 hd'
      obtain ⟨a, rfl⟩ : ∃ a, v = V.ref a := by
        obtain ⟨ds, rfl | rfl⟩ := hr
        · obtain ⟨a, _, e, _⟩ := hv.tupI; exact ⟨a, e⟩
        · obtain ⟨a, _, e, _⟩ := hv.lstI; exact ⟨a, e⟩
      exact .inl ⟨a, d, rfl, hv, hs.sh, hs.nd, hs.dp, hs.ln, q _ _ (Same.refl _) (.str _)⟩
theorem gv_neB {i j : Bool} (ha : Gv K ta σ H (.bool i)) (hb : Gv K tb σ H (.bool j)) : Gv K (tOp rNe ta tb) σ H (.bool (!decide (i = j))) :=
  gv_op2 ha hb fun x y H1 Q s hx hy q => by
    cases hx; cases hy
    refine ⟨rfl, q _ _ (Same.refl _) ?_⟩
    have : decide (V.bl i = V.bl j) = decide (i = j) := by cases i <;> cases j <;> rfl
    rw [this]; exact .bl _
/-- what the dict says of a thing -/
def wayOf (L : BL (List Key)) (k : List Key) : PyData := match L.find? fun x => decide (x.1 = k) with
  | some x => dInts x.2
  | none => .none
theorem way_get {L : BL (List Key)} {dd g : Addr} {k : List Key} (h : DictB K H dd L) (nd : (L.map (·.1)).Nodup) (eg : H g = some (.tup (k.map kV))) : ∃ o, DGet H dd (.ref g) o ∧ Dp K H (o.getD .non) (wayOf L k) := by
  unfold wayOf
  cases e : L.find? fun x => decide (x.1 = k) with
  | none =>
    refine ⟨none, h.none (fun hk => ?_) eg, .non⟩
    obtain ⟨x, hx, rfl⟩ := List.mem_map.mp hk
    have := List.find?_eq_none.mp e x hx
    simp at this
  | some x =>
    have hx := List.mem_of_find?_eq_some e
    have e2 : x.1 = k := by simpa using List.find?_some e
    subst e2
    obtain ⟨i, hi⟩ := List.getElem?_of_mem hx
    obtain ⟨v, g1, g2⟩ := h.get nd hi eg
    exact ⟨some v, g1, g2⟩
theorem gd_var {i : Nat} {dd : Addr} {L : BL (List Key)} (hi : σ[i]? = some (some (.ref dd))) (hd : DictB K H dd L) : GvDB K (tVar i) σ H L := fun H1 s Q q => ⟨.ref dd, hi, q dd H1 (Same.refl _) (hd.same s)⟩
theorem dictB_is {dd : Addr} {L : BL (List Key)} (h : DictB K H dd L) : IsD H dd := let ⟨vs, e, _⟩ := h; .inr ⟨_, .inl e⟩
theorem gv_get1 {L : BL (List Key)} {j : Nat} {g : Addr} {gl : List Int} (h : GvDB K t σ H L) (nd : (L.map (·.1)).Nodup) (hj : σ[j]? = some (some (.ref g))) (eg : H g = some (.tup (gl.map V.int))) : Gv K (tDGet1 t (tVar j)) σ H (wayOf L (kInt gl)) := fun H1 s Q q => h H1 s _ fun dd H2 s2 hd => by
  obtain ⟨o, h1, h2⟩ := way_get hd nd (k := kInt gl) (by rw [kInt_kV]; exact s2 _ _ (s _ _ eg))
  exact ⟨dd, rfl, dictB_is hd, .ref g, hj, o, h1, q _ H2 s2 h2⟩
theorem gv_get2 {L : BL (List Key)} {j : Nat} {g : Addr} {gl : List Int} (h : GvDB K t σ H L) (nd : (L.map (·.1)).Nodup) (hj : σ[j]? = some (some (.ref g))) (eg : H g = some (.tup (gl.map V.int))) : Gv K (tDGet2 t (tVar j) (tC .non)) σ H (wayOf L (kInt gl)) := fun H1 s Q q => h H1 s _ fun dd H2 s2 hd => by
  obtain ⟨o, h1, h2⟩ := way_get hd nd (k := kInt gl) (by rw [kInt_kV]; exact s2 _ _ (s _ _ eg))
  exact ⟨dd, rfl, dictB_is hd, .ref g, hj, o, h1, q _ H2 s2 h2⟩
end
theorem found_nd (pan : List (List Int)) (st : List Int) : ((foundM pan st).map (·.1)).Nodup := bfs_nd 1024
theorem wayOf_lf (L : BL (List Key)) (k : List Key) : lf (wayOf L k) = true := by
  unfold wayOf
  split
  · exact lf_ints _
  · simp only [lf]
theorem way_shw {pan : List (List Int)} (few : pan.length ≤ 10) (st : List Int) (k : List Key) : wayOf (foundM pan st) k = .none ∨ ∃ r : List Int, wayOf (foundM pan st) k = dInts r ∧ r.length ≤ 1024 ∧ ∀ x ∈ r, 0 ≤ x ∧ x < 10 := by
  unfold wayOf
  cases e : (foundM pan st).find? fun x => decide (x.1 = k) with
  | none => exact .inl rfl
  | some x =>
    have hx := List.mem_of_find?_eq_some e
    have := bfs_rows (step := stepP pan) (n := pan.length) (s := kInt st) 1024 x hx
    exact .inr ⟨x.2, rfl, by have := this.1; omega, fun y hy => by have := this.2 y hy; omega⟩
theorem shw_none : Shw 1 4 .none := ⟨by simp only [PyData.showable], by simp only [PyData.hasDict], by simp [PyData.depth], by simp only [PyData.shown]; decide⟩
theorem way_shw1 {pan : List (List Int)} (few : pan.length ≤ 10) (st : List Int) (k : List Key) : Shw 1 3075 (wayOf (foundM pan st) k) := by
  rcases way_shw few st k with h | ⟨r, h, h1, h2⟩
  · rw [h]; exact shw_none.mono (by decide) (by decide)
  · rw [h]; exact shw_ints (m := 1024) h1 h2
theorem way_rep {pan : List (List Int)} (few : pan.length ≤ 10) (st : List Int) (k : List Key) : RepOk (wayOf (foundM pan st) k) := by
  rcases way_shw few st k with h | ⟨r, h, h1, h2⟩
  · exact .inl h
  · rw [h]; exact .inr ⟨(shw_ints (m := 1024) h1 h2).mono (by decide) (by decide), _, .inl rfl⟩
theorem way_rep2 {pan : List (List Int)} (few : pan.length ≤ 10) (st : List Int) (k : List Key) : RepOk (.list [wayOf (foundM pan st) k, wayOf (foundM pan st) k]) := by
  refine .inr ⟨(Shw.list (dep := 1) (n := 3075) (m := 2) (fun d hd => ?_) (Nat.le_refl _)).mono (by decide) (by decide), _, .inr rfl⟩
  have : d = wayOf (foundM pan st) k := by simpa using hd
  rw [this]; exact way_shw1 few st k
end Pr
/-! Links within a state, ways along them, held buttons. -/
namespace Pr
open PySem PySem.Spec PyProof.Rows L2
def Rel (pan : List (List Int)) (st : List Int) (x y : Int) : Prop := x ∈ st ∧ y ∈ st ∧ y ∈ pan.getD x.toNat []
def Pth (pan : List (List Int)) (st : List Int) : Nat → Int → Int → Prop
  | 0, x, y => x = y
  | m + 1, x, y => ∃ z, Rel pan st x z ∧ Pth pan st m z y
section
variable {pan : List (List Int)} {st : List Int}
theorem Pth.join : ∀ {a b : Nat} {x y z : Int}, Pth pan st a x y → Pth pan st b y z → Pth pan st (a + b) x z
  | 0, b, x, y, z, h1, h2 => by rw [Nat.zero_add]; rw [show x = y from h1]; exact h2
  | a + 1, b, x, y, z, ⟨u, r, h1⟩, h2 => by
    rw [show a + 1 + b = (a + b) + 1 by omega]
    exact ⟨u, r, Pth.join h1 h2⟩
theorem Pth.split : ∀ {a b : Nat} {x z : Int}, Pth pan st (a + b) x z → ∃ y, Pth pan st a x y ∧ Pth pan st b y z
  | 0, b, x, z, h => ⟨x, rfl, by rw [Nat.zero_add] at h; exact h⟩
  | a + 1, b, x, z, h => by
    rw [show a + 1 + b = (a + b) + 1 by omega] at h
    obtain ⟨u, r, h⟩ := h
    obtain ⟨y, h1, h2⟩ := Pth.split h
    exact ⟨y, ⟨u, r, h1⟩, h2⟩
theorem Pth.one {x y : Int} (r : Rel pan st x y) : Pth pan st 1 x y := ⟨y, r, rfl⟩
theorem Pth.ends : ∀ {m : Nat} {x y : Int}, Pth pan st (m + 1) x y → x ∈ st ∧ y ∈ st
  | 0, x, y, ⟨z, r, h⟩ => ⟨r.1, by rw [← show z = y from h]; exact r.2.1⟩
  | m + 1, x, y, ⟨z, r, h⟩ => ⟨r.1, (Pth.ends h).2⟩
end
def Closed (pan : List (List Int)) (C : List Int) : Prop := ∀ b ∈ C, ∃ c ∈ pan.getD b.toNat [], c ∈ C
structure IsHeld (pan : List (List Int)) (st hs : List Int) : Prop where
  up : hs.Pairwise (· < ·)
  sub : ∀ x ∈ hs, x ∈ st
  closed : Closed pan hs
  most : ∀ C : List Int, Closed pan C → (∀ x ∈ C, x ∈ st) → ∀ x ∈ C, x ∈ hs
theorem nodup_sub : ∀ {l s : List Int}, l.Nodup → (∀ x ∈ l, x ∈ s) → l.length ≤ s.length
  | [], s, _, _ => Nat.zero_le _
  | x :: r, s, hn, h => by
    rw [List.nodup_cons] at hn
    have hx := h x List.mem_cons_self
    have ih := nodup_sub (l := r) (s := s.erase x) hn.2 fun y hy => (List.mem_erase_of_ne (fun e => hn.1 (by rw [← e]; exact hy))).mpr (h y (List.mem_cons_of_mem _ hy))
    rw [List.length_erase_of_mem hx] at ih
    have := List.length_pos_of_mem hx
    rw [List.length_cons]; omega
theorem not_nodup : ∀ {l : List Int}, ¬ l.Nodup → ∃ i j : Nat, ∃ x : Int, i < j ∧ l[i]? = some x ∧ l[j]? = some x
  | [], h => absurd List.nodup_nil h
  | y :: r, h => by
    by_cases hy : y ∈ r
    · obtain ⟨j, hj⟩ := List.getElem?_of_mem hy
      exact ⟨0, j + 1, y, Nat.succ_pos _, rfl, hj⟩
    · have : ¬ r.Nodup := fun hr => h (List.nodup_cons.mpr ⟨hy, hr⟩)
      obtain ⟨i, j, x, h1, h2, h3⟩ := not_nodup this
      exact ⟨i + 1, j + 1, x, by omega, h2, h3⟩
theorem walk_in {pan : List (List Int)} {st hs : List Int} (h : IsHeld pan st hs) : ∀ (m : Nat) (x : Int), x ∈ hs → ∃ l : List Int, l.length = m ∧ (∀ y ∈ l, y ∈ hs) ∧ (∀ (i : Nat) (y : Int), l[i]? = some y → Pth pan st (i + 1) x y) ∧
    ∀ (i j : Nat) (y z : Int), i < j → l[i]? = some y → l[j]? = some z → Pth pan st (j - i) y z
  | 0, x, _ => ⟨[], rfl, (fun y hy => by cases hy), (fun i y hy => by cases hy), (fun i j y z _ hy => by cases hy)⟩
  | m + 1, x, hx => by
    obtain ⟨c, hc1, hc2⟩ := h.closed x hx
    have r : Rel pan st x c := ⟨h.sub x hx, h.sub c hc2, hc1⟩
    obtain ⟨l, h1, h2, h3, h4⟩ := walk_in h m c hc2
    refine ⟨c :: l, by rw [List.length_cons, h1], fun y hy => (List.mem_cons.mp hy).elim (fun e => e ▸ hc2) (h2 y), fun i y hy => ?_, fun i j y z hij hy hz => ?_⟩
    · match i, hy with
      | 0, hy => cases hy; exact Pth.one r
      | i + 1, hy => exact ⟨c, r, h3 i y hy⟩
    · match i, j, hij, hy, hz with
      | 0, j + 1, _, hy, hz => cases hy; exact h3 j z hz
      | i + 1, j + 1, hij, hy, hz => rw [show j + 1 - (i + 1) = j - i by omega]; exact h4 i j y z (by omega) hy hz
theorem held_loop {pan : List (List Int)} {st hs : List Int} (h : IsHeld pan st hs) {b : Int} (hb : b ∈ hs) : ∃ (l : Int) (i j : Nat), 1 ≤ i ∧ i ≤ st.length ∧ 1 ≤ j ∧ j ≤ st.length ∧ Pth pan st i b l ∧ Pth pan st j l l := by
  obtain ⟨w, w1, w2, w3, w4⟩ := walk_in h (st.length + 1) b hb
  have nd : ¬ w.Nodup := fun hn => by
    have := nodup_sub hn fun x hx => h.sub x (w2 x hx)
    omega
  obtain ⟨i, j, x, hij, hi, hj⟩ := not_nodup nd
  have lj := (List.getElem?_eq_some_iff.mp hj).1
  exact ⟨x, i + 1, j - i, by omega, by omega, by omega, by omega, w3 i x hi, w4 i j x x hij hi hj⟩
theorem loop_held {pan : List (List Int)} {st hs : List Int} (h : IsHeld pan st hs) {b l : Int} {i j : Nat} (hi : 1 ≤ i) (hj : 1 ≤ j) (h1 : Pth pan st i b l) (h2 : Pth pan st j l l) : b ∈ hs := by
  classical
  have key : ∀ x, x ∈ st.filter (fun x => decide (∃ m, 1 ≤ m ∧ Pth pan st m x l)) → x ∈ hs := by
    refine fun x hx => h.most _ (fun y hy => ?_) (fun y hy => (List.mem_filter.mp hy).1) x hx
    obtain ⟨hy1, hy2⟩ := List.mem_filter.mp hy
    obtain ⟨m, hm, hp⟩ := of_decide_eq_true hy2
    obtain ⟨m, rfl⟩ : ∃ k, m = k + 1 := ⟨m - 1, by omega⟩
    obtain ⟨z, r, hp⟩ := hp
    refine ⟨z, r.2.2, List.mem_filter.mpr ⟨r.2.1, decide_eq_true ⟨m + j, by omega, Pth.join hp h2⟩⟩⟩
  refine key b (List.mem_filter.mpr ⟨?_, decide_eq_true ⟨i, hi, h1⟩⟩)
  obtain ⟨i, rfl⟩ : ∃ k, i = k + 1 := ⟨i - 1, by omega⟩
  exact (Pth.ends h1).1
theorem IsHeld.uniq {pan : List (List Int)} {st h1 h2 : List Int} (a : IsHeld pan st h1) (b : IsHeld pan st h2) : h1 = h2 :=
  asc_ext a.up b.up fun x => ⟨fun h => b.most h1 a.closed a.sub x h, fun h => a.most h2 b.closed b.sub x h⟩
def relB (pan : List (List Int)) (os : List Int) (b : Int) : Bool := (pan.getD b.toNat []).any fun c => decide (c ∈ os)
theorem relB_iff {pan : List (List Int)} {os : List Int} {b : Int} : relB pan os b = true ↔ ∃ c ∈ pan.getD b.toNat [], c ∈ os := by
  unfold relB
  rw [List.any_eq_true]
  exact ⟨fun ⟨c, h1, h2⟩ => ⟨c, h1, of_decide_eq_true h2⟩, fun ⟨c, h1, h2⟩ => ⟨c, h1, decide_eq_true h2⟩⟩
/-- on the way to the held buttons -/
structure Hold (pan : List (List Int)) (st hs : List Int) : Prop where
  up : hs.Pairwise (· < ·)
  sub : ∀ x ∈ hs, x ∈ st
  most : ∀ C : List Int, Closed pan C → (∀ x ∈ C, x ∈ st) → ∀ x ∈ C, x ∈ hs
theorem Hold.step {pan : List (List Int)} {st hs : List Int} (h : Hold pan st hs) : Hold pan st (hs.filter (relB pan hs)) := by
  refine ⟨h.up.filter _, fun x hx => h.sub x (List.mem_filter.mp hx).1, fun C hC hs' x hx => List.mem_filter.mpr ⟨h.most C hC hs' x hx, relB_iff.mpr ?_⟩⟩
  obtain ⟨c, h1, h2⟩ := hC x hx
  exact ⟨c, h1, h.most C hC hs' c h2⟩
theorem Hold.done {pan : List (List Int)} {st hs : List Int} (h : Hold pan st hs) (hl : ¬ (hs.filter (relB pan hs)).length < hs.length) : IsHeld pan st hs := by
  have e : (hs.filter (relB pan hs)).length = hs.length := Nat.le_antisymm (List.length_filter_le _ _) (by omega)
  exact ⟨h.up, h.sub, fun b hb => relB_iff.mp (List.length_filter_eq_length_iff.mp e b hb), h.most⟩
/-! ### reach, by doubling -/
/-- rows[x] holds the ends of ways of at most 2 ^ k links, and ends of ways only -/
structure Rch (pan : List (List Int)) (st : List Int) (k : Nat) (rows : List (List Int)) : Prop where
  len : rows.length = pan.length
  sound : ∀ (x : Nat) (l : List Int) (y : Int), rows[x]? = some l → y ∈ l → ∃ m, 1 ≤ m ∧ Pth pan st m (x : Int) y
  full : ∀ (x : Nat) (l : List Int) (y : Int) (m : Nat), rows[x]? = some l → 1 ≤ m → m ≤ 2 ^ k → Pth pan st m (x : Int) y → y ∈ l
theorem Rch.rng {pan : List (List Int)} {st : List Int} {k : Nat} {rows : List (List Int)} (h : Rch pan st k rows) (hs : ∀ x ∈ st, 0 ≤ x ∧ x < (pan.length : Int)) {x : Nat} {l : List Int} (hl : rows[x]? = some l) {y : Int} (hy : y ∈ l) : 0 ≤ y ∧ y < (pan.length : Int) := by
  obtain ⟨m, hm, p⟩ := h.sound x l y hl hy
  obtain ⟨m, rfl⟩ : ∃ k, m = k + 1 := ⟨m - 1, by omega⟩
  exact hs y (Pth.ends p).2
theorem Rch.next {pan : List (List Int)} {st : List Int} {k : Nat} {rows rows' : List (List Int)} (h : Rch pan st k rows) (hs : ∀ x ∈ st, 0 ≤ x ∧ x < (pan.length : Int)) (hl : rows'.length = rows.length)
    (hm : ∀ (x : Nat) (l l' : List Int), rows[x]? = some l → rows'[x]? = some l' → ∀ y, y ∈ l' ↔ (y ∈ l ∨ ∃ z ∈ l, y ∈ rows.getD z.toNat [])) : Rch pan st (k + 1) rows' := by
  have get : ∀ (x : Nat) (l' : List Int), rows'[x]? = some l' → ∃ l, rows[x]? = some l := fun x l' hx => by
    have := (List.getElem?_eq_some_iff.mp hx).1
    exact ⟨rows[x], List.getElem?_eq_getElem (by omega)⟩
  have nth : ∀ (z : Int), 0 ≤ z → z < (pan.length : Int) → rows[z.toNat]? = some (rows.getD z.toNat []) := fun z h0 h1 => by
    have : z.toNat < rows.length := by have := h.len; omega
    rw [List.getD_eq_getElem?_getD, List.getElem?_eq_getElem this]; rfl
  refine ⟨hl.trans h.len, fun x l' y hx hy => ?_, fun x l' y m hx h1 h2 hp => ?_⟩
  · obtain ⟨l, hl'⟩ := get x l' hx
    rcases (hm x l l' hl' hx y).mp hy with q | ⟨z, hz, q⟩
    · exact h.sound x l y hl' q
    · obtain ⟨a, ha, pa⟩ := h.sound x l z hl' hz
      have zr := h.rng hs hl' hz
      obtain ⟨b, hb, pb⟩ := h.sound z.toNat _ y (nth z zr.1 zr.2) q
      rw [Int.toNat_of_nonneg zr.1] at pb
      exact ⟨a + b, by omega, pa.join pb⟩
  · obtain ⟨l, hl'⟩ := get x l' hx
    refine (hm x l l' hl' hx y).mpr ?_
    by_cases hk : m ≤ 2 ^ k
    · exact .inl (h.full x l y m hl' h1 hk hp)
    · have e2 : 2 ^ (k + 1) = 2 ^ k + 2 ^ k := by rw [Nat.pow_succ]; omega
      have p2 : 1 ≤ 2 ^ k := Nat.one_le_two_pow
      rw [show m = 2 ^ k + (m - 2 ^ k) by omega] at hp
      obtain ⟨z, pa, pb⟩ := Pth.split hp
      have hz := h.full x l z (2 ^ k) hl' p2 (Nat.le_refl _) pa
      have zr := h.rng hs hl' hz
      refine .inr ⟨z, hz, h.full z.toNat _ y (m - 2 ^ k) (nth z zr.1 zr.2) (by omega) (by omega) ?_⟩
      rw [Int.toNat_of_nonneg zr.1]; exact pb
theorem Rch.first {pan : List (List Int)} {st : List Int} {rows : List (List Int)} (hl : rows.length = pan.length) (hm : ∀ (x : Nat) (l : List Int), rows[x]? = some l → ∀ y, y ∈ l ↔ Rel pan st (x : Int) y) : Rch pan st 0 rows := by
  refine ⟨hl, fun x l y hx hy => ⟨1, Nat.le_refl _, Pth.one ((hm x l hx y).mp hy)⟩, fun x l y m hx h1 h2 hp => ?_⟩
  obtain rfl : m = 1 := by
    have : (2 : Nat) ^ 0 = 1 := rfl
    omega
  obtain ⟨z, r, e⟩ := hp
  rw [show z = y from e] at r
  exact (hm x l hx y).mpr r
/-- what the law holds for held -/
theorem Rch.held {pan : List (List Int)} {st hs : List Int} {k : Nat} {rows : List (List Int)} (h : Rch pan st k rows) (hk : st.length ≤ 2 ^ k) (hs' : ∀ x ∈ st, 0 ≤ x ∧ x < (pan.length : Int)) (hh : IsHeld pan st hs) {b : Int} (hb : b ∈ st) :
    b ∈ hs ↔ ∃ l ∈ rows.getD b.toNat [], l ∈ st ∧ l ∈ rows.getD l.toNat [] := by
  have nth : ∀ (z : Int), z ∈ st → rows[z.toNat]? = some (rows.getD z.toNat []) := fun z hz => by
    have : z.toNat < rows.length := by have := h.len; have := hs' z hz; omega
    rw [List.getD_eq_getElem?_getD, List.getElem?_eq_getElem this]; rfl
  have cast : ∀ z, z ∈ st → ((z.toNat : Nat) : Int) = z := fun z hz => Int.toNat_of_nonneg (hs' z hz).1
  constructor
  · intro hx
    obtain ⟨l, i, j, i1, i2, j1, j2, p1, p2⟩ := held_loop hh hx
    obtain ⟨j', rfl⟩ : ∃ k, j = k + 1 := ⟨j - 1, by omega⟩
    have hl := (Pth.ends p2).1
    exact ⟨l, h.full b.toNat _ l i (nth b hb) i1 (by omega) (by rw [cast b hb]; exact p1), hl, h.full l.toNat _ l (j' + 1) (nth l hl) j1 (by omega) (by rw [cast l hl]; exact p2)⟩
  · rintro ⟨l, h1, hl, h2⟩
    obtain ⟨i, i1, p1⟩ := h.sound b.toNat _ l (nth b hb) h1
    obtain ⟨j, j1, p2⟩ := h.sound l.toNat _ l (nth l hl) h2
    rw [cast b hb] at p1
    rw [cast l hl] at p2
    exact loop_held hh i1 j1 p1 p2
theorem le_two_pow (n : Nat) : n ≤ 2 ^ n := Nat.le_of_lt Nat.lt_two_pow_self
end Pr
/-! Reaching: the search finds just what rows reach; held and gathered buttons tell it too. -/
namespace Pr
open PySem PySem.Spec PyProof.Rows L2
/-- what b releases -/
abbrev relM (pan : List (List Int)) (b : Int) : List Int := pan.getD b.toNat []
/-- buttons of the panel -/
def InP (pan : List (List Int)) (b : Int) : Prop := 0 ≤ b ∧ b < (pan.length : Int)
theorem runM_cons {pan : List (List Int)} {st row : List Int} {b : Int} : runM pan st (b :: row) = runM pan (pressM pan st b) row := rfl
theorem runM_app {pan : List (List Int)} {st r1 r2 : List Int} : runM pan st (r1 ++ r2) = runM pan (runM pan st r1) r2 := by unfold runM; rw [List.foldl_append]
/-- which buttons may be pressed on the way to the goal -/
def PrOk (pan : List (List Int)) (goal hs G : List Int) (b : Int) : Prop := (b ∈ goal ∧ b ∉ hs) ∨ (b ∈ G ∧ ∀ x ∈ relM pan b, x ∉ hs)
structure IsGath (pan : List (List Int)) (goal hs G : List Int) : Prop where
  rng : ∀ x ∈ G, InP pan x
  out : ∀ x ∈ G, x ∉ goal
  clos : ∀ b, PrOk pan goal hs G b → ∀ x ∈ relM pan b, x ∉ goal → x ∈ G
  rank : ∃ r : Int → Nat, (∀ g ∈ G, 1 ≤ r g) ∧ ∀ g ∈ G, ∃ b, PrOk pan goal hs G b ∧ g ∈ relM pan b ∧ (b ∈ goal ∨ r b < r g)
section
variable {pan : List (List Int)} {goal hs G : List Int}
/-- a button of the goal that is not held releases no held one -/
theorem free_of (hh : IsHeld pan goal hs) {b : Int} (hb : b ∈ goal) (hn : b ∉ hs) : ∀ x ∈ relM pan b, x ∉ hs := fun x hx hxs => by
  refine hn (hh.most (b :: hs) ?_ ?_ b List.mem_cons_self)
  · intro y hy
    rcases List.mem_cons.mp hy with rfl | hy
    · exact ⟨x, hx, List.mem_cons_of_mem _ hxs⟩
    · obtain ⟨z, h1, h2⟩ := hh.closed y hy
      exact ⟨z, h1, List.mem_cons_of_mem _ h2⟩
  · intro y hy
    rcases List.mem_cons.mp hy with rfl | hy
    · exact hb
    · exact hh.sub y hy
theorem PrOk.free (hh : IsHeld pan goal hs) {b : Int} (h : PrOk pan goal hs G b) : ∀ x ∈ relM pan b, x ∉ hs := by
  rcases h with ⟨h1, h2⟩ | ⟨_, h2⟩
  · exact free_of hh h1 h2
  · exact h2
/-- what must hold of a state from which the goal is reached -/
def CanG (goal hs G st : List Int) : Prop := (∀ x ∈ hs, x ∈ st) ∧ ∀ x ∈ st, x ∈ goal ∨ x ∈ G
theorem can_goal (hh : IsHeld pan goal hs) : CanG goal hs G goal := ⟨hh.sub, fun _ h => .inl h⟩
theorem can_pred (own : ∀ (i : Nat) (l : List Int), pan[i]? = some l → (i : Int) ∉ l) (hh : IsHeld pan goal hs) (hG : IsGath pan goal hs G) {st : List Int} (hst : Asc pan.length st) {b : Int} (hb : InP pan b) (h : CanG goal hs G (pressM pan st b)) : CanG goal hs G st := by
  have bt : b ∈ pressM pan st b := mem_pressM.mpr ⟨hb, .inl rfl⟩
  have selfN : b ∉ relM pan b := by
    have hl : b.toNat < pan.length := by have := hb; unfold InP at this; omega
    have := own b.toNat pan[b.toNat] (List.getElem?_eq_getElem hl)
    unfold relM
    rw [List.getD_eq_getElem?_getD, List.getElem?_eq_getElem hl]
    rw [Int.toNat_of_nonneg hb.1] at this
    exact this
  have notrel : ∀ x ∈ relM pan b, x ∉ pressM pan st b := fun x hx hm => by
    rcases (mem_pressM.mp hm).2 with rfl | ⟨_, h2⟩
    · exact selfN hx
    · exact h2 hx
  have nrel : ∀ x ∈ relM pan b, x ∉ hs := fun x hx hxs => notrel x hx (h.1 x hxs)
  have bn : b ∉ hs := fun hbs => by
    obtain ⟨z, h1, h2⟩ := hh.closed b hbs
    exact nrel z h1 h2
  have ok : PrOk pan goal hs G b := by
    rcases h.2 b bt with h1 | h1
    · exact .inl ⟨h1, bn⟩
    · exact .inr ⟨h1, nrel⟩
  refine ⟨fun x hx => ?_, fun x hx => ?_⟩
  · rcases (mem_pressM.mp (h.1 x hx)).2 with rfl | ⟨h1, _⟩
    · exact absurd hx bn
    · exact h1
  · by_cases hr : x ∈ relM pan b
    · by_cases hg : x ∈ goal
      · exact .inl hg
      · exact .inr (hG.clos b ok x hr hg)
    · exact h.2 x (mem_pressM.mpr ⟨hst.rng x hx, .inr ⟨hx, hr⟩⟩)
theorem can_of_run (own : ∀ (i : Nat) (l : List Int), pan[i]? = some l → (i : Int) ∉ l) (hh : IsHeld pan goal hs) (hG : IsGath pan goal hs G) : ∀ {row st : List Int}, Asc pan.length st → (∀ b ∈ row, InP pan b) → runM pan st row = goal → CanG goal hs G st
  | [], st, hst, _, e => by
    have : st = goal := e
    rw [this]; exact can_goal hh
  | b :: row, st, hst, hr, e => can_pred own hh hG hst (hr b List.mem_cons_self) (can_of_run own hh hG (pressM_asc pan st b) (fun c hc => hr c (List.mem_cons_of_mem _ hc)) e)
/-- pressing buttons of a list, none of which releases a held one: the held stay, only what is pressed is new -/
theorem run_keep {row : List Int} : ∀ {st : List Int}, (∀ b ∈ row, InP pan b ∧ ∀ x ∈ relM pan b, x ∉ hs) → (∀ x ∈ hs, InP pan x) → (∀ x ∈ hs, x ∈ st) → (∀ x ∈ hs, x ∈ runM pan st row) ∧ ∀ x ∈ runM pan st row, x ∈ row ∨ x ∈ st := by
  induction row with
  | nil => intro st _ _ h; exact ⟨h, fun x hx => .inr hx⟩
  | cons b row ih =>
    intro st hr hi h
    have hb := hr b List.mem_cons_self
    have := ih (st := pressM pan st b) (fun c hc => hr c (List.mem_cons_of_mem _ hc)) hi (fun x hx => mem_pressM.mpr ⟨hi x hx, .inr ⟨h x hx, fun z => hb.2 x z hx⟩⟩)
    refine ⟨this.1, fun x hx => ?_⟩
    rcases this.2 x hx with h1 | h1
    · exact .inl (List.mem_cons_of_mem _ h1)
    · rcases (mem_pressM.mp h1).2 with rfl | ⟨h2, _⟩
      · exact .inl List.mem_cons_self
      · exact .inr h2
/-- what is released by a pressed button, and is not pressed itself, is gone -/
theorem run_gone {row : List Int} : ∀ {st : List Int} {x : Int}, x ∉ row → ((∃ b ∈ row, x ∈ relM pan b) ∨ x ∉ st) → x ∉ runM pan st row := by
  induction row with
  | nil =>
    intro st x _ h
    rcases h with ⟨b, hb, _⟩ | h
    · cases hb
    · exact h
  | cons b row ih =>
    intro st x hn h
    have n1 : x ≠ b := fun z => hn (z ▸ List.mem_cons_self)
    have n2 : x ∉ row := fun z => hn (List.mem_cons_of_mem _ z)
    refine ih (st := pressM pan st b) n2 ?_
    rcases h with ⟨c, hc, hx⟩ | h
    · rcases List.mem_cons.mp hc with rfl | hc
      · refine .inr fun z => ?_
        rcases (mem_pressM.mp z).2 with e | ⟨_, e⟩
        · exact n1 e
        · exact e hx
      · exact .inl ⟨c, hc, hx⟩
    · refine .inr fun z => ?_
      rcases (mem_pressM.mp z).2 with e | ⟨e, _⟩
      · exact n1 e
      · exact h e
/-- the goal's buttons that are not held can be pressed in some order -/
theorem press_goal (hh : IsHeld pan goal hs) (hi : ∀ x ∈ goal, InP pan x) : ∀ (m : Nat) (S : List Int), S.Nodup → (∀ x ∈ S, x ∈ goal) → (∀ x ∈ hs, x ∈ S) → S.length ≤ m → ∃ row, (∀ b ∈ row, b ∈ S ∧ b ∉ hs) ∧ ∀ st, (∀ x ∈ hs, x ∈ st) → ∀ x ∈ S, x ∈ runM pan st row := by
  intro m
  induction m with
  | zero =>
    intro S _ _ _ hl
    have : S = [] := List.length_eq_zero_iff.mp (by omega)
    subst this
    exact ⟨[], fun b hb => (by cases hb), fun st _ x hx => (by cases hx)⟩
  | succ m ih =>
    intro S nd hS hsS hl
    by_cases hall : ∀ x ∈ S, x ∈ hs
    · exact ⟨[], fun b hb => (by cases hb), fun st h x hx => h x (hall x hx)⟩
    · -- one that releases none of S
      have : ∃ b ∈ S, b ∉ hs ∧ ∀ x ∈ relM pan b, x ∉ S := by
        apply Classical.byContradiction
        intro hno
        apply hall
        refine hh.most S ?_ hS
        intro b hb
        by_cases hbs : b ∈ hs
        · obtain ⟨z, h1, h2⟩ := hh.closed b hbs
          exact ⟨z, h1, hsS z h2⟩
        · apply Classical.byContradiction
          intro hz
          exact hno ⟨b, hb, hbs, fun x hx hxS => hz ⟨x, hx, hxS⟩⟩
      obtain ⟨b, hb, hbn, hfree⟩ := this
      have hlen : (S.erase b).length ≤ m := by rw [List.length_erase_of_mem hb]; omega
      obtain ⟨row, h1, h2⟩ := ih (S.erase b) (nd.erase b) (fun x hx => hS x (List.mem_of_mem_erase hx)) (fun x hx => (List.mem_erase_of_ne (fun e : x = b => hbn (by rw [← e]; exact hx))).mpr (hsS x hx)) hlen
      refine ⟨row ++ [b], fun c hc => ?_, fun st hst x hx => ?_⟩
      · rcases List.mem_append.mp hc with h | h
        · exact ⟨List.mem_of_mem_erase (h1 c h).1, (h1 c h).2⟩
        · rw [List.mem_singleton.mp h]; exact ⟨hb, hbn⟩
      · rw [runM_app]
        show x ∈ pressM pan (runM pan st row) b
        refine mem_pressM.mpr ⟨hi x (hS x hx), ?_⟩
        by_cases e : x = b
        · exact .inl e
        · exact .inr ⟨h2 st hst x ((List.mem_erase_of_ne e).mpr hx), fun z => hfree x z hx⟩
/-- outside buttons can be released -/
theorem release_all (hh : IsHeld pan goal hs) (hG : IsGath pan goal hs G) (hi : ∀ x ∈ goal, InP pan x) {r : Int → Nat} (r1 : ∀ g ∈ G, 1 ≤ r g) (hr : ∀ g ∈ G, ∃ b, PrOk pan goal hs G b ∧ g ∈ relM pan b ∧ (b ∈ goal ∨ r b < r g)) :
    ∀ (m : Nat) (st : List Int), Asc pan.length st → (∀ x ∈ hs, x ∈ st) → (∀ x ∈ st, x ∈ goal ∨ (x ∈ G ∧ r x ≤ m)) → ∃ row, (∀ b ∈ row, InP pan b) ∧ (∀ x ∈ hs, x ∈ runM pan st row) ∧ ∀ x ∈ runM pan st row, x ∈ goal := by
  intro m
  induction m with
  | zero =>
    intro st _ h1 h2
    refine ⟨[], fun b hb => (by cases hb), h1, fun x hx => ?_⟩
    rcases h2 x hx with h | ⟨h, h'⟩
    · exact h
    · have := r1 x h; omega
  | succ m ih =>
    intro st hst h1 h2
    -- the releasers of those of rank m + 1
    have sel : ∀ l : List Int, (∀ g ∈ l, g ∈ G) → ∃ row : List Int, (∀ b ∈ row, PrOk pan goal hs G b ∧ (b ∈ goal ∨ ∃ g ∈ l, r b < r g)) ∧ ∀ g ∈ l, ∃ b ∈ row, g ∈ relM pan b := by
      intro l
      induction l with
      | nil => intro _; exact ⟨[], fun b hb => (by cases hb), fun g hg => (by cases hg)⟩
      | cons g l ihl =>
        intro hl
        obtain ⟨row, a1, a2⟩ := ihl fun g hg => hl g (List.mem_cons_of_mem _ hg)
        obtain ⟨b, b1, b2, b3⟩ := hr g (hl g List.mem_cons_self)
        refine ⟨b :: row, fun c hc => ?_, fun x hx => ?_⟩
        · rcases List.mem_cons.mp hc with rfl | hc
          · exact ⟨b1, b3.imp_right fun h => ⟨g, List.mem_cons_self, h⟩⟩
          · exact ⟨(a1 c hc).1, (a1 c hc).2.imp_right fun ⟨y, y1, y2⟩ => ⟨y, List.mem_cons_of_mem _ y1, y2⟩⟩
        · rcases List.mem_cons.mp hx with rfl | hx
          · exact ⟨b, List.mem_cons_self, b2⟩
          · obtain ⟨c, c1, c2⟩ := a2 x hx
            exact ⟨c, List.mem_cons_of_mem _ c1, c2⟩
    obtain ⟨row, a1, a2⟩ := sel (st.filter fun x => decide (x ∈ G ∧ r x = m + 1)) fun g hg => (of_decide_eq_true (List.mem_filter.mp hg).2).1
    have inP : ∀ b ∈ row, InP pan b := fun b hb => by
      rcases (a1 b hb).1 with ⟨h, _⟩ | ⟨h, _⟩
      · exact hi b h
      · exact hG.rng b h
    have keep := run_keep (pan := pan) (hs := hs) (row := row) (st := st) (fun b hb => ⟨inP b hb, (a1 b hb).1.free hh⟩) (fun x hx => hi x (hh.sub x hx)) h1
    have low : ∀ x ∈ runM pan st row, x ∈ goal ∨ (x ∈ G ∧ r x ≤ m) := fun x hx => by
      by_cases hxr : x ∈ row
      · rcases (a1 x hxr).2 with h | ⟨g, hg, h⟩
        · exact .inl h
        · have hg' := of_decide_eq_true (List.mem_filter.mp hg).2
          rcases (a1 x hxr).1 with ⟨h3, _⟩ | ⟨h3, _⟩
          · exact .inl h3
          · exact .inr ⟨h3, by have := hg'.2; omega⟩
      · rcases keep.2 x hx with h | h
        · exact absurd h hxr
        · rcases h2 x h with h3 | ⟨h3, h4⟩
          · exact .inl h3
          · by_cases e : r x = m + 1
            · obtain ⟨b, b1, b2⟩ := a2 x (List.mem_filter.mpr ⟨h, decide_eq_true ⟨h3, e⟩⟩)
              exact absurd hx (run_gone hxr (.inl ⟨b, b1, b2⟩))
            · exact .inr ⟨h3, by omega⟩
    obtain ⟨row2, c1, c2, c3⟩ := ih (runM pan st row) (runM_asc hst) keep.1 low
    refine ⟨row ++ row2, fun b hb => ?_, ?_, ?_⟩
    · rcases List.mem_append.mp hb with h | h
      · exact inP b h
      · exact c1 b h
    · rw [runM_app]; exact c2
    · rw [runM_app]; exact c3
theorem run_of_can (hh : IsHeld pan goal hs) (hG : IsGath pan goal hs G) (hg : Asc pan.length goal) {st : List Int} (hst : Asc pan.length st) (h : CanG goal hs G st) : ∃ row, (∀ b ∈ row, InP pan b) ∧ runM pan st row = goal := by
  obtain ⟨r, r1, hr⟩ := hG.rank
  have hm : ∃ m, ∀ x ∈ st, x ∈ G → r x ≤ m := by
    have : ∀ l : List Int, ∃ m, ∀ x ∈ l, r x ≤ m := fun l => by
      induction l with
      | nil => exact ⟨0, fun x hx => (by cases hx)⟩
      | cons y l ih =>
        obtain ⟨m, hm⟩ := ih
        refine ⟨max m (r y), fun x hx => ?_⟩
        rcases List.mem_cons.mp hx with rfl | hx
        · exact Nat.le_max_right _ _
        · exact Nat.le_trans (hm x hx) (Nat.le_max_left _ _)
    obtain ⟨m, hm⟩ := this st
    exact ⟨m, fun x hx _ => hm x hx⟩
  obtain ⟨m, hm⟩ := hm
  obtain ⟨row, a1, a2, a3⟩ := release_all hh hG hg.rng r1 hr m st hst h.1 fun x hx => (h.2 x hx).imp_right fun h' => ⟨h', hm x hx h'⟩
  have ndg : goal.Nodup := hg.up.imp (fun {a b} (h : a < b) => Int.ne_of_lt h)
  obtain ⟨row2, b1, b2⟩ := press_goal hh hg.rng goal.length goal ndg (fun _ h => h) hh.sub (Nat.le_refl _)
  have in2 : ∀ b ∈ row2, InP pan b := fun b hb => hg.rng b (b1 b hb).1
  refine ⟨row ++ row2, fun b hb => ?_, ?_⟩
  · rcases List.mem_append.mp hb with h | h
    · exact a1 b h
    · exact in2 b h
  · rw [runM_app]
    refine asc_ext (runM_asc (runM_asc hst)).up hg.up fun x => ⟨fun hx => ?_, fun hx => b2 _ a2 x hx⟩
    have keep := run_keep (pan := pan) (hs := hs) (row := row2) (st := runM pan st row) (fun b hb => ⟨in2 b hb, free_of hh (b1 b hb).1 (b1 b hb).2⟩) (fun y hy => hg.rng y (hh.sub y hy)) a2
    rcases keep.2 x hx with h | h
    · exact (b1 x h).1
    · exact a3 x h
end
end Pr
/-! How the gathered buttons are found. -/
namespace Pr
open PySem PySem.Spec PyProof.Rows L2
structure GInv (pan : List (List Int)) (goal hs G Pd : List Int) : Prop where
  nd : G.Nodup
  rng : ∀ x ∈ G, InP pan x
  out : ∀ x ∈ G, x ∉ goal
  pd : ∀ b ∈ Pd, PrOk pan goal hs G b
  done : ∀ b, PrOk pan goal hs G b → b ∈ Pd ∨ ∀ x ∈ relM pan b, x ∉ goal → x ∈ G
  rank : ∃ (r : Int → Nat) (L : Nat), (∀ g ∈ G, 1 ≤ r g ∧ r g ≤ L) ∧ ∀ g ∈ G, ∃ b, PrOk pan goal hs G b ∧ g ∈ relM pan b ∧ (b ∈ goal ∨ (b ∈ G ∧ r b < r g))
/-- what the pressed ones release, outside -/
def relOut (pan : List (List Int)) (goal G Pd : List Int) : List Int := ((intL pan.length).filter fun x => !decide (x ∈ goal)).filter fun x => (!decide (x ∈ G)) && (Pd.map fun o => decide (x ∈ relM pan o)).any id
def freeOfM (pan : List (List Int)) (hs R : List Int) : List Int := R.filter fun b => !((relM pan b).map fun x => decide (x ∈ hs)).any id
section
variable {pan : List (List Int)} {goal hs G Pd : List Int}
theorem mem_relOut {x : Int} : x ∈ relOut pan goal G Pd ↔ InP pan x ∧ x ∉ goal ∧ x ∉ G ∧ ∃ o ∈ Pd, x ∈ relM pan o := by
  unfold relOut
  rw [List.mem_filter, List.mem_filter, mem_intL]
  simp only [Bool.not_eq_true', decide_eq_false_iff_not, Bool.and_eq_true, List.any_map, List.any_eq_true, Function.comp, id_eq, decide_eq_true_eq]
  unfold InP
  constructor
  · rintro ⟨⟨h1, h2⟩, h3, h4⟩; exact ⟨h1, h2, h3, h4⟩
  · rintro ⟨h1, h2, h3, h4⟩; exact ⟨⟨h1, h2⟩, h3, h4⟩
theorem mem_freeOfM {b : Int} {R : List Int} : b ∈ freeOfM pan hs R ↔ b ∈ R ∧ ∀ x ∈ relM pan b, x ∉ hs := by
  unfold freeOfM
  rw [List.mem_filter]
  simp only [Bool.not_eq_true', List.any_map, List.any_eq_false, Function.comp, id_eq, decide_eq_true_eq]
theorem relOut_nd : (relOut pan goal G Pd).Nodup := by
  unfold relOut
  exact List.Pairwise.filter _ (List.Pairwise.filter _ ((Asc.full pan.length).up.imp fun {a b} (h : a < b) => Int.ne_of_lt h))
theorem ginv_init (hi : ∀ x ∈ goal, InP pan x) : GInv pan goal hs [] (goal.filter fun b => !decide (b ∈ hs)) where
  nd := List.nodup_nil
  rng := fun x hx => by cases hx
  out := fun x hx => by cases hx
  pd := fun b hb => by
    have := List.mem_filter.mp hb
    exact .inl ⟨this.1, by simpa using this.2⟩
  done := fun b hb => by
    rcases hb with ⟨h1, h2⟩ | ⟨h1, _⟩
    · exact .inl (List.mem_filter.mpr ⟨h1, by simpa using h2⟩)
    · cases h1
  rank := ⟨fun _ => 0, 0, fun g hg => (by cases hg), fun g hg => (by cases hg)⟩
theorem ginv_step (rg : ∀ l ∈ pan, ∀ x ∈ l, 0 ≤ x ∧ x < (pan.length : Int)) (h : GInv pan goal hs G Pd) : GInv pan goal hs (G ++ relOut pan goal G Pd) (freeOfM pan hs (relOut pan goal G Pd)) := by
  have up : ∀ {b}, PrOk pan goal hs G b → PrOk pan goal hs (G ++ relOut pan goal G Pd) b := fun {b} hb => hb.imp_right fun ⟨h1, h2⟩ => ⟨List.mem_append_left _ h1, h2⟩
  have inr : ∀ b x, x ∈ relM pan b → InP pan x := fun b x hx => by
    unfold relM at hx
    rw [List.getD_eq_getElem?_getD] at hx
    cases e : pan[b.toNat]? with
    | none => rw [e] at hx; cases hx
    | some l => rw [e] at hx; exact rg l (List.mem_of_getElem? e) x hx
  refine ⟨?_, fun x hx => ?_, fun x hx => ?_, fun b hb => ?_, fun b hb => ?_, ?_⟩
  · rw [List.nodup_append]
    refine ⟨h.nd, relOut_nd, fun a ha b hb e => ?_⟩
    subst e
    exact (mem_relOut.mp hb).2.2.1 ha
  · rcases List.mem_append.mp hx with hx | hx
    · exact h.rng x hx
    · exact (mem_relOut.mp hx).1
  · rcases List.mem_append.mp hx with hx | hx
    · exact h.out x hx
    · exact (mem_relOut.mp hx).2.1
  · have := mem_freeOfM.mp hb
    exact .inr ⟨List.mem_append_right _ this.1, this.2⟩
  · by_cases hold : PrOk pan goal hs G b
    · refine .inr fun x hx hg => ?_
      rcases h.done b hold with hp | hp
      · by_cases hxG : x ∈ G
        · exact List.mem_append_left _ hxG
        · exact List.mem_append_right _ (mem_relOut.mpr ⟨inr b x hx, hg, hxG, b, hp, hx⟩)
      · exact List.mem_append_left _ (hp x hx hg)
    · rcases hb with hb | ⟨h1, h2⟩
      · exact absurd (.inl hb) hold
      · rcases List.mem_append.mp h1 with h1 | h1
        · exact absurd (.inr ⟨h1, h2⟩) hold
        · exact .inl (mem_freeOfM.mpr ⟨h1, h2⟩)
  · obtain ⟨r, L, r1, r2⟩ := h.rank
    refine ⟨fun x => if x ∈ G then r x else L + 1, L + 1, fun g hg => ?_, fun g hg => ?_⟩
    · by_cases e : g ∈ G
      · simp only [if_pos e]; have := r1 g e; omega
      · simp only [if_neg e]; omega
    · by_cases e : g ∈ G
      · obtain ⟨b, b1, b2, b3⟩ := r2 g e
        refine ⟨b, up b1, b2, b3.imp_right fun ⟨c1, c2⟩ => ⟨List.mem_append_left _ c1, ?_⟩⟩
        simp only [if_pos e, if_pos c1]; exact c2
      · have hgR : g ∈ relOut pan goal G Pd := (List.mem_append.mp hg).resolve_left e
        obtain ⟨_, _, _, o, ho, hgo⟩ := mem_relOut.mp hgR
        refine ⟨o, up (h.pd o ho), hgo, ?_⟩
        rcases h.pd o ho with ⟨h1, _⟩ | ⟨h1, _⟩
        · exact .inl h1
        · refine .inr ⟨List.mem_append_left _ h1, ?_⟩
          simp only [if_pos h1, if_neg e]; have := r1 o h1; omega
theorem ginv_end (h : GInv pan goal hs G []) {G' : List Int} (e : ∀ x, x ∈ G' ↔ x ∈ G) : IsGath pan goal hs G' := by
  have pe : ∀ b, PrOk pan goal hs G' b ↔ PrOk pan goal hs G b := fun b => by unfold PrOk; rw [e]
  obtain ⟨r, L, r1, r2⟩ := h.rank
  refine ⟨fun x hx => h.rng x ((e x).mp hx), fun x hx => h.out x ((e x).mp hx), fun b hb x hx hg => ?_, r, fun g hg => (r1 g ((e g).mp hg)).1, fun g hg => ?_⟩
  · rcases h.done b ((pe b).mp hb) with hp | hp
    · cases hp
    · exact (e x).mpr (hp x hx hg)
  · obtain ⟨b, b1, b2, b3⟩ := r2 g ((e g).mp hg)
    exact ⟨b, (pe b).mpr b1, b2, b3.imp_right fun h => h.2⟩
theorem ginv_len (h : GInv pan goal hs G Pd) : G.length ≤ pan.length := by
  have := nodup_sub h.nd (s := intL pan.length) (fun x hx => mem_intL.mpr (h.rng x hx))
  unfold intL at this
  rwa [List.length_map, List.length_range] at this
end
/-! ### the search is complete -/
section
variable {κ : Type} [DecidableEq κ] {step : κ → Nat → κ} {n : Nat} {s : κ}
theorem addK_has (L : BL κ) (k : κ) (r : List Int) : k ∈ (addK L k r).map (·.1) := by
  unfold addK
  split
  · assumption
  · rw [List.map_append]; exact List.mem_append_right _ List.mem_cons_self
theorem procB_has (L : BL κ) (k : κ) (r : List Int) : ∀ (m : Nat) (b : Nat), b < m → step k b ∈ (procB step L k r m).map (·.1) := by
  intro m
  induction m with
  | zero => intro b h; omega
  | succ m ih =>
    intro b hb
    rw [procB_succ]
    by_cases e : b = m
    · subst e; exact addK_has _ _ _
    · obtain ⟨t, ht⟩ := addK_pre (procB step L k r m) (step k m) (r ++ [(m : Int)])
      rw [← ht, List.map_append]
      exact List.mem_append_left _ (ih b (by omega))
theorem bfs_closed {M : Nat} (hM : (bfsN step n s M).length ≤ M) : ∀ x ∈ bfsN step n s M, ∀ b < n, step x.1 b ∈ (bfsN step n s M).map (·.1) := fun x hx b hb => by
  obtain ⟨i, hi⟩ := List.getElem?_of_mem hx
  have hiM : i < M := Nat.lt_of_lt_of_le (List.getElem?_eq_some_iff.mp hi).1 hM
  by_cases hil : i < (bfsN step n s i).length
  · obtain ⟨t, ht⟩ := bfs_pre (step := step) (n := n) (s := s) (Nat.le_of_lt hiM)
    have hx2 : (bfsN step n s i)[i]? = some x := by
      rw [← ht, List.getElem?_append_left hil] at hi
      exact hi
    have e := bfs_step hx2
    obtain ⟨u, hu⟩ := bfs_pre (step := step) (n := n) (s := s) (show i + 1 ≤ M by omega)
    rw [← hu, List.map_append]
    refine List.mem_append_left _ ?_
    rw [e]
    exact procB_has _ _ _ n b hb
  · have := bfs_stop (step := step) (n := n) (s := s) (i := i) (by omega) (Nat.le_of_lt hiM)
    rw [this] at hi
    have := (List.getElem?_eq_some_iff.mp hi).1
    omega
end
theorem reach_step {pan : List (List Int)} (few : pan.length ≤ 10) {st k : List Int} (hst : Asc pan.length st) (hk : k ∈ reachM pan st) {b : Int} (hb : InP pan b) : pressM pan k b ∈ reachM pan st := by
  obtain ⟨x, hx, rfl⟩ := List.mem_map.mp hk
  have hb' : b.toNat < pan.length := by have := hb; unfold InP at this; omega
  have := bfs_closed (step := stepP pan) (n := pan.length) (s := kInt st) (M := 1024) (bfs_few few ⟨st, rfl, hst⟩ 1024) x hx b.toNat hb'
  obtain ⟨y, hy, e⟩ := List.mem_map.mp this
  refine List.mem_map.mpr ⟨y, hy, ?_⟩
  rw [e]
  unfold stepP
  rw [unK_kInt, Int.toNat_of_nonneg hb.1]
theorem reach_run {pan : List (List Int)} (few : pan.length ≤ 10) {st : List Int} (hst : Asc pan.length st) : ∀ {row k : List Int}, k ∈ reachM pan st → (∀ b ∈ row, InP pan b) → runM pan k row ∈ reachM pan st
  | [], _, hk, _ => hk
  | b :: row, _, hk, hr => reach_run few hst (row := row) (reach_step few hst hk (hr b List.mem_cons_self)) fun c hc => hr c (List.mem_cons_of_mem _ hc)
theorem reach_self {pan : List (List Int)} (st : List Int) : st ∈ reachM pan st := by
  obtain ⟨t, ht⟩ := bfs_pre (step := stepP pan) (n := pan.length) (s := kInt st) (Nat.zero_le 1024)
  unfold reachM foundM
  rw [← ht, List.map_append]
  refine List.mem_append_left _ ?_
  show st ∈ [unK (kInt st)]
  rw [unK_kInt]; exact List.mem_singleton.mpr rfl
theorem reach_iff {pan : List (List Int)} (few : pan.length ≤ 10) {st : List Int} (hst : Asc pan.length st) {k : List Int} : k ∈ reachM pan st ↔ ∃ row, (∀ b ∈ row, InP pan b) ∧ runM pan st row = k := by
  constructor
  · intro hk
    obtain ⟨x, hx, rfl⟩ := List.mem_map.mp hk
    exact bfs_all (P := fun k => ∃ row, (∀ b ∈ row, InP pan b) ∧ runM pan st row = unK k) (step := stepP pan) (n := pan.length) (s := kInt st) ⟨[], fun b hb => (by cases hb), by rw [unK_kInt]; rfl⟩
      (fun k b ⟨row, h1, h2⟩ hb => ⟨row ++ [(b : Int)], fun c hc => by
        rcases List.mem_append.mp hc with h | h
        · exact h1 c h
        · rw [List.mem_singleton.mp h]; unfold InP; omega, by
        rw [runM_app, h2]; unfold stepP; rw [unK_kInt]; rfl⟩) 1024 x hx
  · rintro ⟨row, h1, rfl⟩
    exact reach_run few hst (reach_self st) h1
/-- the document's two ways to say it -/
theorem reach_can {pan : List (List Int)} (g : Good pan) {st goal hs G : List Int} (hst : Asc pan.length st) (hg : Asc pan.length goal) (hh : IsHeld pan goal hs) (hG : IsGath pan goal hs G) : goal ∈ reachM pan st ↔ CanG goal hs G st := by
  rw [reach_iff g.few hst]
  constructor
  · rintro ⟨row, h1, h2⟩
    exact can_of_run g.own hh hG hst h1 h2
  · exact run_of_can hh hG hg hst
end Pr
/-! The rows that a search finds are the shortest; from rest the shortest one presses each button of the goal once. -/
namespace Pr
open PySem PySem.Spec PyProof.Rows L2
section
variable {κ : Type} [DecidableEq κ] {step : κ → Nat → κ} {n : Nat} {s : κ}
def rowK (step : κ → Nat → κ) (s : κ) (r : List Int) : κ := r.foldl (fun k b => step k b.toNat) s
theorem rowK_snoc {r : List Int} {b : Int} : rowK step s (r ++ [b]) = step (rowK step s r) b.toNat := by unfold rowK; rw [List.foldl_append]; rfl
theorem procB_each {I : κ × List Int → Prop} {L : BL κ} {k : κ} {r : List Int} (h : ∀ x ∈ L, I x) : ∀ m, (∀ b, b < m → I (step k b, r ++ [(b : Int)])) → ∀ x ∈ procB step L k r m, I x
  | 0, _ => h
  | m + 1, hb => by
    rw [procB_succ]
    unfold addK
    split
    · exact procB_each h m fun b q => hb b (by omega)
    · intro x hx
      rcases List.mem_append.mp hx with hx | hx
      · exact procB_each h m (fun b q => hb b (by omega)) x hx
      · rw [List.mem_singleton.mp hx]; exact hb m (by omega)
theorem bfs_each {I : κ × List Int → Prop} (h0 : I (s, [])) (hs : ∀ x b, I x → b < n → I (step x.1 b, x.2 ++ [(b : Int)])) : ∀ i, ∀ x ∈ bfsN step n s i, I x
  | 0 => fun x hx => by rw [List.mem_singleton.mp hx]; exact h0
  | i + 1 => by
    by_cases hi : i < (bfsN step n s i).length
    · rw [bfs_step (List.getElem?_eq_getElem hi)]
      exact procB_each (bfs_each h0 hs i) n fun b hb => hs _ b (bfs_each h0 hs i _ (List.getElem_mem hi)) hb
    · rw [bfs_stop (by omega) (Nat.le_succ i)]; exact bfs_each h0 hs i
theorem bfs_row (i : Nat) : ∀ x ∈ bfsN step n s i, x.1 = rowK step s x.2 ∧ ∀ b ∈ x.2, 0 ≤ b ∧ b < (n : Int) :=
  bfs_each (I := fun x => x.1 = rowK step s x.2 ∧ ∀ b ∈ x.2, 0 ≤ b ∧ b < (n : Int)) ⟨rfl, fun b hb => by cases hb⟩ (fun x b h hb => ⟨by rw [rowK_snoc, ← h.1, Int.toNat_natCast], fun c hc => by
    rcases List.mem_append.mp hc with q | q
    · exact h.2 c q
    · rw [List.mem_singleton.mp q]; omega⟩) i
theorem procB_more (L : BL κ) (k : κ) (r : List Int) : ∀ m, ∃ M, procB step L k r m = L ++ M ∧ ∀ y ∈ M, y.2.length = r.length + 1
  | 0 => ⟨[], by rw [List.append_nil]; rfl, fun y hy => by cases hy⟩
  | m + 1 => by
    obtain ⟨M, e, h⟩ := procB_more L k r m
    rw [procB_succ]
    unfold addK
    split
    · exact ⟨M, e, h⟩
    · refine ⟨M ++ [(step k m, r ++ [(m : Int)])], by rw [e, List.append_assoc], fun y hy => ?_⟩
      rcases List.mem_append.mp hy with q | q
      · exact h y q
      · rw [List.mem_singleton.mp q, List.length_append]; rfl
structure Lv (step : κ → Nat → κ) (n : Nat) (L : BL κ) (i : Nat) : Prop where
  up : L.Pairwise fun a b => a.2.length ≤ b.2.length
  top : ∀ x, L[i]? = some x → ∀ y ∈ L, y.2.length ≤ x.2.length + 1
  near : ∀ j < i, ∀ x, L[j]? = some x → ∀ b < n, ∃ y ∈ L, y.1 = step x.1 b ∧ y.2.length ≤ x.2.length + 1
theorem lv_bfs : ∀ i, Lv step n (bfsN step n s i) i
  | 0 => ⟨List.pairwise_singleton _ _, fun x hx y hy => by
      rw [List.mem_singleton.mp hy]; exact Nat.zero_le _, fun j hj => by omega⟩
  | i + 1 => by
    have h := lv_bfs i
    by_cases hi : i < (bfsN step n s i).length
    · have ex := List.getElem?_eq_getElem hi
      generalize (bfsN step n s i)[i] = x at ex
      rw [bfs_step ex]
      obtain ⟨M, e, hM⟩ := procB_more (step := step) (bfsN step n s i) x.1 x.2 n
      have hup : (procB step (bfsN step n s i) x.1 x.2 n).Pairwise fun a b => a.2.length ≤ b.2.length := by
        rw [e]
        refine List.pairwise_append.mpr ⟨h.up, ?_, fun a ha b hb => ?_⟩
        · exact List.pairwise_of_forall_mem_list fun a ha b hb => by rw [hM a ha, hM b hb]; exact Nat.le_refl _
        · rw [hM b hb]; exact h.top x ex a ha
      have hall : ∀ y ∈ procB step (bfsN step n s i) x.1 x.2 n, y.2.length ≤ x.2.length + 1 := fun y hy => by
        rw [e] at hy
        rcases List.mem_append.mp hy with q | q
        · exact h.top x ex y q
        · rw [hM y q]; exact Nat.le_refl _
      have ex2 : (procB step (bfsN step n s i) x.1 x.2 n)[i]? = some x := by rw [e, List.getElem?_append_left hi]; exact ex
      refine ⟨hup, fun z hz y hy => ?_, fun j hj z hz b hb => ?_⟩
      · have h1 := hall y hy
        obtain ⟨g1, g2⟩ := List.getElem?_eq_some_iff.mp ex2
        obtain ⟨g3, g4⟩ := List.getElem?_eq_some_iff.mp hz
        have := List.pairwise_iff_getElem.mp hup i (i + 1) g1 g3 (by omega)
        rw [g2, g4] at this
        omega
      · by_cases ej : j = i
        · subst ej
          rw [ex2] at hz; cases hz
          obtain ⟨y, hy, ey⟩ := List.mem_map.mp (procB_has (step := step) (bfsN step n s j) x.1 x.2 n b hb)
          exact ⟨y, hy, ey, hall y hy⟩
        · rw [e, List.getElem?_append_left (by omega)] at hz
          obtain ⟨y, hy, e1, e2⟩ := h.near j (by omega) z hz b hb
          exact ⟨y, by rw [e]; exact List.mem_append_left _ hy, e1, e2⟩
    · rw [bfs_stop (by omega) (Nat.le_succ i)]
      refine ⟨h.up, fun z hz => ?_, fun j hj z hz => ?_⟩
      · have := (List.getElem?_eq_some_iff.mp hz).1; omega
      · have := (List.getElem?_eq_some_iff.mp hz).1
        exact h.near j (by omega) z hz
theorem bfs_short {M : Nat} (hM : (bfsN step n s M).length ≤ M) (r : List Int) : (∀ b ∈ r, 0 ≤ b ∧ b < (n : Int)) → ∃ y ∈ bfsN step n s M, y.1 = rowK step s r ∧ y.2.length ≤ r.length := by
  generalize hl : r.length = l
  induction l generalizing r with
  | zero =>
    intro _
    obtain rfl := List.length_eq_zero_iff.mp hl
    obtain ⟨t, ht⟩ := bfs_pre (step := step) (n := n) (s := s) (Nat.zero_le M)
    refine ⟨(s, []), ?_, rfl, Nat.le_refl _⟩
    rw [← ht]
    exact List.mem_append_left _ (List.mem_singleton.mpr rfl)
  | succ l ih =>
    intro hr
    have hne : r ≠ [] := fun z => by rw [z] at hl; cases hl
    have er := List.dropLast_concat_getLast hne
    have hl2 : r.dropLast.length = l := by rw [List.length_dropLast]; omega
    obtain ⟨y, hy, e1, e2⟩ := ih r.dropLast hl2 fun b hb => hr b (by rw [← er]; exact List.mem_append_left _ hb)
    obtain ⟨j, hj⟩ := List.getElem?_of_mem hy
    have hb := hr (r.getLast hne) (List.getLast_mem hne)
    have hjl := (List.getElem?_eq_some_iff.mp hj).1
    obtain ⟨z, hz, e3, e4⟩ := (lv_bfs (step := step) (n := n) (s := s) M).near j (by omega) y hj (r.getLast hne).toNat (by omega)
    exact ⟨z, hz, by rw [e3, e1, ← rowK_snoc (step := step) (s := s), er], by omega⟩
end
theorem rowK_run {pan : List (List Int)} : ∀ {r : List Int} {st : List Int}, (∀ b ∈ r, InP pan b) → rowK (stepP pan) (kInt st) r = kInt (runM pan st r)
  | [], _, _ => rfl
  | b :: r, st, h => by
    have hb := h b List.mem_cons_self
    show rowK (stepP pan) (stepP pan (kInt st) b.toNat) r = _
    unfold stepP
    rw [unK_kInt, Int.toNat_of_nonneg hb.1]
    exact rowK_run fun c hc => h c (List.mem_cons_of_mem _ hc)
/-- the way that is found, if there is one -/
theorem way_min {pan : List (List Int)} (few : pan.length ≤ 10) {st goal : List Int} (hst : Asc pan.length st) :
    (wayOf (foundM pan st) (kInt goal) = .none ∧ goal ∉ reachM pan st) ∨ ∃ r, wayOf (foundM pan st) (kInt goal) = dInts r ∧ goal ∈ reachM pan st ∧ (∀ b ∈ r, InP pan b) ∧ runM pan st r = goal ∧ ∀ row, (∀ b ∈ row, InP pan b) → runM pan st row = goal → r.length ≤ row.length := by
  unfold wayOf
  cases e : (foundM pan st).find? fun x => decide (x.1 = kInt goal) with
  | none =>
    refine .inl ⟨rfl, fun hk => ?_⟩
    obtain ⟨x, hx, e2⟩ := List.mem_map.mp hk
    have := List.find?_eq_none.mp e x hx
    simp only [decide_eq_true_eq] at this
    exact this (by rw [← e2, found_key hst x hx])
  | some x =>
    have hx := List.mem_of_find?_eq_some e
    have e2 : x.1 = kInt goal := by simpa using List.find?_some e
    have hr := bfs_row (step := stepP pan) (n := pan.length) (s := kInt st) 1024 x hx
    have hr2 : ∀ b ∈ x.2, InP pan b := fun b hb => hr.2 b hb
    refine .inr ⟨x.2, rfl, List.mem_map.mpr ⟨x, hx, by rw [e2, unK_kInt]⟩, hr2, ?_, fun row h1 h2 => ?_⟩
    · have := hr.1
      rw [rowK_run hr2, e2] at this
      rw [← unK_kInt (runM pan st x.2), ← this, unK_kInt]
    · obtain ⟨y, hy, e3, e4⟩ := bfs_short (step := stepP pan) (n := pan.length) (s := kInt st) (M := 1024) (bfs_few few ⟨st, rfl, hst⟩ 1024) row (fun b hb => h1 b hb)
      rw [rowK_run (fun b hb => h1 b hb), h2, ← e2] at e3
      have : y = x := by
        have nd := found_nd pan st
        obtain ⟨i, hi⟩ := List.getElem?_of_mem hx
        obtain ⟨j, hj⟩ := List.getElem?_of_mem (show y ∈ foundM pan st from hy)
        obtain ⟨i1, i2⟩ := List.getElem?_eq_some_iff.mp hi
        obtain ⟨j1, j2⟩ := List.getElem?_eq_some_iff.mp hj
        have : j = i := (List.getElem_inj (h₀ := by rw [List.length_map]; exact j1) (h₁ := by rw [List.length_map]; exact i1) nd).mp (by rw [List.getElem_map, List.getElem_map, i2, j2, e3])
        subst this
        rw [hi] at hj; cases hj; rfl
      rw [← this]; exact e4
/-- no held button: the goal's buttons in some order lead to it from rest -/
theorem press_once {pan : List (List Int)} {goal : List Int} (hh : IsHeld pan goal []) (hi : ∀ x ∈ goal, InP pan x) : ∀ (m : Nat) (S : List Int), S.Nodup → (∀ x ∈ S, x ∈ goal) → S.length ≤ m → ∃ row : List Int, row.length ≤ S.length ∧ (∀ b ∈ row, b ∈ S) ∧ ∀ st, ∀ x ∈ S, x ∈ runM pan st row := by
  intro m
  induction m with
  | zero =>
    intro S _ _ hl
    have : S = [] := List.length_eq_zero_iff.mp (by omega)
    subst this
    exact ⟨[], Nat.le_refl _, fun b hb => (by cases hb), fun st x hx => (by cases hx)⟩
  | succ m ih =>
    intro S nd hS hl
    by_cases hall : S = []
    · subst hall
      exact ⟨[], Nat.le_refl _, fun b hb => (by cases hb), fun st x hx => (by cases hx)⟩
    · have : ∃ b ∈ S, ∀ x ∈ relM pan b, x ∉ S := by
        apply Classical.byContradiction
        intro hno
        cases S with
        | nil => exact hall rfl
        | cons c r =>
          have := hh.most (c :: r) (fun b hb => by
            apply Classical.byContradiction
            intro hz
            exact hno ⟨b, hb, fun x hx hxS => hz ⟨x, hx, hxS⟩⟩) hS c List.mem_cons_self
          cases this
      obtain ⟨b, hb, hfree⟩ := this
      have hlen : (S.erase b).length ≤ m := by rw [List.length_erase_of_mem hb]; omega
      obtain ⟨row, h0, h1, h2⟩ := ih (S.erase b) (nd.erase b) (fun x hx => hS x (List.mem_of_mem_erase hx)) hlen
      refine ⟨row ++ [b], ?_, fun c hc => ?_, fun st x hx => ?_⟩
      · rw [List.length_append]
        rw [List.length_erase_of_mem hb] at h0
        have := List.length_pos_of_mem hb
        show _ + 1 ≤ _; omega
      · rcases List.mem_append.mp hc with h | h
        · exact List.mem_of_mem_erase (h1 c h)
        · rw [List.mem_singleton.mp h]; exact hb
      · rw [runM_app]
        show x ∈ pressM pan (runM pan st row) b
        refine mem_pressM.mpr ⟨hi x (hS x hx), ?_⟩
        by_cases e : x = b
        · exact .inl e
        · exact .inr ⟨h2 st x ((List.mem_erase_of_ne e).mpr hx), fun z => hfree x z hx⟩
theorem rest_row {pan : List (List Int)} {goal : List Int} (hg : Asc pan.length goal) (hh : IsHeld pan goal []) : ∃ row : List Int, row.length ≤ goal.length ∧ (∀ b ∈ row, InP pan b) ∧ runM pan [] row = goal := by
  have nd : goal.Nodup := hg.up.imp fun {a b} h => by omega
  obtain ⟨row, h0, h1, h2⟩ := press_once hh (fun x hx => hg.rng x hx) goal.length goal nd (fun _ h => h) (Nat.le_refl _)
  have hr : ∀ b ∈ row, InP pan b := fun b hb => hg.rng b (h1 b hb)
  refine ⟨row, h0, hr, ?_⟩
  have hk := (run_keep (pan := pan) (hs := []) (row := row) (st := []) (fun b hb => ⟨hr b hb, fun x _ z => by cases z⟩) (fun x hx => by cases hx) (fun x hx => by cases hx)).2
  have ha : Asc pan.length (runM pan [] row) := runM_asc (Asc.nil _)
  refine asc_ext ha.up hg.up fun x => ⟨fun hx => ?_, fun hx => h2 [] x hx⟩
  rcases hk x hx with h | h
  · exact h1 x h
  · cases h
theorem perm_sub : ∀ {l r : List Int}, l.Nodup → (∀ x ∈ l, x ∈ r) → r.length ≤ l.length → l.Perm r
  | [], r, _, _, h => by
    have : r = [] := List.length_eq_zero_iff.mp (by simpa using h)
    rw [this]
  | x :: l, r, nd, hs, h => by
    rw [List.nodup_cons] at nd
    have hx := hs x List.mem_cons_self
    have hp := List.perm_cons_erase hx
    refine List.Perm.trans (List.Perm.cons x (perm_sub nd.2 (fun y hy => ?_) ?_)) hp.symm
    · exact (List.mem_erase_of_ne (fun e : y = x => nd.1 (e ▸ hy))).mpr (hs y (List.mem_cons_of_mem _ hy))
    · rw [List.length_erase_of_mem hx]
      have : (x :: l).length = l.length + 1 := rfl
      omega
/-- the shortest row from rest is the goal's buttons, each once -/
theorem rest_short {pan : List (List Int)} {goal r : List Int} (hg : Asc pan.length goal) (hh : IsHeld pan goal []) (hr : ∀ b ∈ r, InP pan b) (e : runM pan [] r = goal) (hm : ∀ row, (∀ b ∈ row, InP pan b) → runM pan [] row = goal → r.length ≤ row.length) : srt r = goal := by
  obtain ⟨row, h0, h1, h2⟩ := rest_row hg hh
  have hlen := Nat.le_trans (hm row h1 h2) h0
  have nd : goal.Nodup := hg.up.imp fun {a b} h => by omega
  have sub : ∀ x ∈ goal, x ∈ r := fun x hx => by
    rw [← e] at hx
    rcases (run_keep (pan := pan) (hs := []) (row := r) (st := []) (fun b hb => ⟨hr b hb, fun x _ z => by cases z⟩) (fun x hx => by cases hx) (fun x hx => by cases hx)).2 x hx with h | h
    · exact h
    · cases h
  exact srt_eq (perm_sub nd sub hlen) (hg.up.imp fun {a b} h => by omega)
/-- reached from rest, exactly if nothing is held -/
theorem rest_iff {pan : List (List Int)} (g : Good pan) {goal hs G : List Int} (hg : Asc pan.length goal) (hh : IsHeld pan goal hs) (hG : IsGath pan goal hs G) : goal ∈ reachM pan [] ↔ hs = [] := by
  rw [reach_can g (Asc.nil _) hg hh hG]
  constructor
  · intro h
    cases hs with
    | nil => rfl
    | cons x r => have := h.1 x List.mem_cons_self; cases this
  · rintro rfl
    exact ⟨fun x hx => (by cases hx), fun x hx => (by cases hx)⟩
theorem rest_of {pan : List (List Int)} (g : Good pan) {goal : List Int} (hg : Asc pan.length goal) (hh : IsHeld pan goal []) : goal ∈ reachM pan [] := by
  obtain ⟨row, _, h1, h2⟩ := rest_row hg hh
  exact (reach_iff g.few (Asc.nil _)).mpr ⟨row, h1, h2⟩
/-- fewer buttons: nothing is held either -/
theorem held_less {pan : List (List Int)} {goal less : List Int} (hh : IsHeld pan goal []) (hs : ∀ x ∈ less, x ∈ goal) : IsHeld pan less [] :=
  ⟨List.Pairwise.nil, fun x hx => (by cases hx), fun b hb => (by cases hb), fun C hC hx => hh.most C hC fun x h => hs x (hx x h)⟩
/-- there are held buttons, and gathered ones -/
theorem held_is {pan : List (List Int)} {st : List Int} (up : st.Pairwise (· < ·)) : ∃ hs, IsHeld pan st hs := by
  have : ∀ (m : Nat) (hs : List Int), Hold pan st hs → hs.length ≤ m → ∃ hs, IsHeld pan st hs := by
    intro m
    induction m with
    | zero =>
      intro hs h hl
      exact ⟨hs, h.done (by omega)⟩
    | succ m ih =>
      intro hs h hl
      by_cases e : (hs.filter (relB pan hs)).length < hs.length
      · exact ih _ h.step (by omega)
      · exact ⟨hs, h.done e⟩
  exact this st.length st ⟨up, fun _ h => h, fun C _ h => h⟩ (Nat.le_refl _)
theorem gath_is {pan : List (List Int)} (g : Good pan) {goal hs : List Int} (hi : ∀ x ∈ goal, InP pan x) : ∃ G, IsGath pan goal hs G := by
  have : ∀ (m : Nat) (G Pd : List Int), GInv pan goal hs G Pd → pan.length - G.length ≤ m → ∃ G, IsGath pan goal hs G := by
    intro m
    induction m with
    | zero =>
      intro G Pd h hl
      have h2 := ginv_step g.rng h
      have l2 := ginv_len h2
      rw [List.length_append] at l2
      have e : relOut pan goal G Pd = [] := List.length_eq_zero_iff.mp (by omega)
      rw [e] at h2
      exact ⟨_, ginv_end h2 fun _ => Iff.rfl⟩
    | succ m ih =>
      intro G Pd h hl
      have h2 := ginv_step g.rng h
      by_cases e : relOut pan goal G Pd = []
      · rw [e] at h2
        exact ⟨_, ginv_end h2 fun _ => Iff.rfl⟩
      · have : 0 < (relOut pan goal G Pd).length := List.length_pos_iff.mpr e
        exact ih _ _ h2 (by rw [List.length_append]; omega)
  exact this pan.length [] _ (ginv_init hi) (by omega)
theorem reach_nd {pan : List (List Int)} {st : List Int} (hst : Asc pan.length st) : (reachM pan st).Nodup := by
  unfold reachM
  have nd := found_nd pan st
  rw [List.nodup_iff_pairwise_ne, List.pairwise_map] at nd ⊢
  refine List.Pairwise.imp_of_mem (fun {a b} ha hb h e => h ?_) nd
  rw [← found_key hst a ha, ← found_key hst b hb, e]
/-- x is not True, of bools -/
def rNotT : V → V → Hp → VK → Prop := fun x y H Q => ∃ b : Bool, x = .bl b ∧ y = .bl true ∧ Q (.bl (!b)) H
theorem op_notT {X : Cx} : OpR X (compareOp .IsNot) rNotT := by
  intro pins s σ H x y v u Q I rx ry h
  obtain ⟨b, rfl, rfl, q⟩ := h
  cases rx; cases ry
  cases b
  · exact wpAny_isNot_other rfl (by intro z; cases z) (fin_bl I q rfl)
  · exact wpAny_isNot_self rfl (fin_bl I q rfl)
end Pr
/-! Expressions that make data and leave all that stood. -/
namespace Pr
open PySem PySem.Spec PyProof.Rows L2
section
variable (K : PySem.W.Frag) (N : Addr → Prop) (σ : L2.St) (H0 : Hp)
def Ev (t : TE) (P : PyData → Prop) : Prop := ∀ (H : Hp) (Q : VK), Same H0 H → (∀ v d H', Same H H' → Dq K N H' v d → P d → Q v H') → t σ H Q
def EvA (t : TA) (P : List PyData → Prop) : Prop := ∀ (H : Hp) (Q : List V → Hp → Prop), Same H0 H → (∀ vs ds H', Same H H' → DqAll K N H' vs ds → P ds → Q vs H') → t σ H Q
end
/-- n items of which P holds -/
def AllP (P : PyData → Prop) (n : Nat) (ds : List PyData) : Prop := ds.length = n ∧ ∀ d ∈ ds, P d
/-- a tuple of at most n items of which P holds -/
def TupP (P : PyData → Prop) (n : Nat) (d : PyData) : Prop := ∃ ds, d = .tuple ds ∧ ds.length ≤ n ∧ ∀ x ∈ ds, P x
def LstP (P : PyData → Prop) (n : Nat) (d : PyData) : Prop := ∃ ds, d = .list ds ∧ ds.length ≤ n ∧ ∀ x ∈ ds, P x
theorem AllP.nil {P : PyData → Prop} : AllP P 0 [] := ⟨rfl, fun _ h => by cases h⟩
theorem AllP.cons {P : PyData → Prop} {n : Nat} {d : PyData} {ds : List PyData} (h : P d) (r : AllP P n ds) : AllP P (n + 1) (d :: ds) :=
  ⟨by rw [List.length_cons, r.1], fun x hx => by
    rcases List.mem_cons.mp hx with rfl | hx
    · exact h
    · exact r.2 x hx⟩
theorem AllP.append {P : PyData → Prop} {n m : Nat} {ds es : List PyData} (h : AllP P n ds) (r : AllP P m es) : AllP P (n + m) (ds ++ es) :=
  ⟨by rw [List.length_append, h.1, r.1], fun x hx => (List.mem_append.mp hx).elim (h.2 x) (r.2 x)⟩
theorem AllP.mono {P P' : PyData → Prop} {n : Nat} {ds : List PyData} (h : AllP P n ds) (f : ∀ d, P d → P' d) : AllP P' n ds := ⟨h.1, fun d hd => f d (h.2 d hd)⟩
theorem TupP.mono {P P' : PyData → Prop} {n m : Nat} {d : PyData} (h : TupP P n d) (f : ∀ d, P d → P' d) (hm : n ≤ m) : TupP P' m d :=
  let ⟨ds, e, l, q⟩ := h; ⟨ds, e, Nat.le_trans l hm, fun x hx => f x (q x hx)⟩
section
variable {K : PySem.W.Frag} {N : Addr → Prop} {σ : L2.St} {H0 : Hp} {P P' : PyData → Prop} {t t1 t2 : TE} {ta : TA}
theorem Ev.weak (h : Ev K N σ H0 t P) (f : ∀ d, P d → P' d) : Ev K N σ H0 t P' := fun H Q s k => h H Q s fun v d H' s' hd hp => k v d H' s' hd (f d hp)
theorem EvA.weak {R R' : List PyData → Prop} (h : EvA K N σ H0 ta R) (f : ∀ d, R d → R' d) : EvA K N σ H0 ta R' := fun H Q s k => h H Q s fun v d H' s' hd hp => k v d H' s' hd (f d hp)
theorem ev_int {i : Int} (h : P (.int i)) : Ev K N σ H0 (tC (.int i)) P := fun H Q s k => k _ _ H (Same.refl _) (.int i) h
theorem ev_bl {b : Bool} (h : P (.bool b)) : Ev K N σ H0 (tC (.bl b)) P := fun H Q s k => k _ _ H (Same.refl _) (.bl b) h
theorem ev_non (h : P .none) : Ev K N σ H0 (tC .non) P := fun H Q s k => k _ _ H (Same.refl _) .non h
theorem ev_str {x : Str} (h : P (.str x)) : Ev K N σ H0 (tC (.str x)) P := fun H Q s k => k _ _ H (Same.refl _) (.str x) h
theorem ev_neg {i : Int} (h : P (.int (-i))) : Ev K N σ H0 (tUn (rU fun i => .int (-i)) (tC (.int i))) P := fun H Q s k => ⟨i, rfl, k _ _ H (Same.refl _) (.int (-i)) h⟩
theorem ev_pow {i j : Int} (hc : CPow i j) (h : P (.int (i ^ j.toNat))) : Ev K N σ H0 (tOp (rI CPow fun i j => .int (i ^ j.toNat)) (tC (.int i)) (tC (.int j))) P := fun H Q s k => ⟨i, j, rfl, rfl, hc, k _ _ H (Same.refl _) (.int _) h⟩
theorem ev_var (i : Nat) {v : V} {d : PyData} (hv : σ[i]? = some (some v)) (hd : Dq K N H0 v d) (h : P d) : Ev K N σ H0 (tVar i) P := fun H Q s k => ⟨v, hv, k _ _ H (Same.refl _) (Dq.same s d v hd) h⟩
theorem eva_nil {R : List PyData → Prop} (h : R []) : EvA K N σ H0 tNil R := fun H Q s k => k [] [] H (Same.refl _) .nil h
theorem eva_cons {n : Nat} (h : Ev K N σ H0 t P) (r : EvA K N σ H0 ta (AllP P n)) : EvA K N σ H0 (tCons t ta) (AllP P (n + 1)) := fun H Q s k =>
  h H _ s fun v d H1 s1 hd hp => r H1 _ (s.trans s1) fun vs ds H2 s2 hds hps => k (v :: vs) (d :: ds) H2 (s1.trans s2) (.cons (Dq.same s2 d v hd) hds) (hps.cons hp)
theorem eva_consE {d : PyData} {ds : List PyData} (h : Ev K N σ H0 t (· = d)) (r : EvA K N σ H0 ta (· = ds)) : EvA K N σ H0 (tCons t ta) (· = d :: ds) := fun H Q s k =>
  h H _ s fun v d' H1 s1 hd hp => r H1 _ (s.trans s1) fun vs ds' H2 s2 hds hps => k (v :: vs) (d' :: ds') H2 (s1.trans s2) (.cons (Dq.same s2 d' v hd) hds) (by rw [hp, hps])
theorem ev_tup {R : List PyData → Prop} (h : EvA K N σ H0 ta R) (hz : ∀ ds, R ds → ds.length ≤ 1000) (f : ∀ ds, R ds → P (.tuple ds)) : Ev K N σ H0 (tTup ta) P := fun H Q s k =>
  h H _ s fun vs ds H1 s1 hds hp => ⟨by rw [hds.length]; exact Nat.le_of_lt (small1000 (hz ds hp)), fun p np => k _ _ _ (s1.trans (same_new np)) (.tup (.inl (.inl upd_same)) (Dq.sameAll (same_new np) ds vs hds)) (f ds hp)⟩
theorem ev_lst {R : List PyData → Prop} (kN : ∀ x, N x → H0 x ≠ none) (h : EvA K N σ H0 ta R) (hz : ∀ ds, R ds → ds.length ≤ 1000) (f : ∀ ds, R ds → P (.list ds)) : Ev K N σ H0 (tLstG ta) P := fun H Q s k =>
  h H _ s fun vs ds H1 s1 hds hp => ⟨by rw [hds.length]; exact Nat.le_of_lt (small1000 (hz ds hp)), fun p np hsys => by
    have fr : ¬ N p := fun e => by
      cases hh : H0 p with
      | none => exact kN p e hh
      | some o => have := (s.trans s1) _ _ hh; rw [np] at this; cases this
    exact k _ _ _ (s1.trans (same_new np)) (.lst hsys fr upd_same (Dq.sameAll (same_new np) ds vs hds)) (f ds hp)⟩
theorem ev_dct0 (h : P (.dict [])) : Ev K N σ H0 tDNewK P := fun H Q s k p np => k _ _ _ (same_new np) (.dct0 upd_same) h
theorem ev_dct1 {x : Str} {i : Int} (h : P (.dict [(.str x, .int i)])) : Ev K N σ H0 (tDisp [(tC (.str x), tC (.int i))]) P := fun H Q s k p np =>
  ⟨upd_same, [(Sum.inr x, .int i)], rfl, (by show 1 ≤ 15; decide), by
    rw [upd_upd]
    exact k _ _ _ (same_new np) (.dct1 upd_same) h⟩
theorem ev_cat {n m : Nat} (h1 : Ev K N σ H0 t1 (TupP P n)) (h2 : Ev K N σ H0 t2 (TupP P m)) (hz : n + m ≤ 1000) (f : ∀ d, TupP P (n + m) d → P' d) : Ev K N σ H0 (tOp (rCatA K) t1 t2) P' := fun H Q s k =>
  h1 H _ s fun v1 d1 H1 s1 q1 ⟨ds, e1, l1, p1⟩ => h2 H1 _ (s.trans s1) fun v2 d2 H2 s2 q2 ⟨es, e2, l2, p2⟩ => by
    subst e1 e2
    cases q1 with
    | tup hs1 ha1 =>
      cases q2 with
      | tup hs2 ha2 =>
        have ha1' := Dq.sameAll s2 ds _ ha1
        have hcat := ha1'.append ha2
        have hP : ∀ x ∈ ds ++ es, P x := fun x hx => (List.mem_append.mp hx).elim (p1 x) (p2 x)
        have lz := hcat.length
        rw [List.length_append, List.length_append] at lz
        refine ⟨_, _, _, _, rfl, rfl, same_sqT s2 hs1, hs2, by rw [lz]; exact Nat.le_of_lt (small1000 (by omega)), fun e => ?_, fun _ e => ?_, fun _ _ p np => ?_⟩
        · subst e
          cases ha1'
          exact k _ _ _ (s1.trans s2) (.tup hs2 ha2) (f _ ⟨es, rfl, by omega, p2⟩)
        · subst e
          cases ha2
          exact k _ _ _ (s1.trans s2) (.tup (same_sqT s2 hs1) ha1') (f _ ⟨ds, rfl, by omega, p1⟩)
        · exact k _ _ _ ((s1.trans s2).trans (same_new np)) (.tup (.inl (.inl upd_same)) (Dq.sameAll (same_new np) _ _ hcat)) (f _ ⟨ds ++ es, rfl, by rw [List.length_append]; omega, hP⟩)
theorem ev_cut {n : Nat} {tl th : TO} {lo hi : Option Int} (h : Ev K N σ H0 t (TupP P n)) (hl : ∀ (H : Hp) (Q : Option Int → Hp → Prop), Q lo H → tl σ H Q) (hh : ∀ (H : Hp) (Q : Option Int → Hp → Prop), Q hi H → th σ H Q) (f : ∀ d, TupP P n d → P' d) :
    Ev K N σ H0 (tSl (rSlA K) t tl th) P' := fun H Q s k =>
  h H _ s fun v d H1 s1 q ⟨ds, e, l, p⟩ => by
    subst e
    refine hl _ _ (hh _ _ ?_)
    cases q with
    | @tup ad xs _ hs ha =>
      refine ⟨_, _, rfl, hs, fun _ => k _ _ _ s1 (.tup hs ha) (f _ ⟨ds, rfl, l, p⟩), fun _ p' np => k _ _ _ (s1.trans (same_new np)) (.tup (.inl (.inl upd_same)) (Dq.sameAll (same_new np) _ _ ((ha.drop _).take _))) (f _ ⟨_, rfl, ?_, fun x hx => p x (List.mem_of_mem_drop (List.mem_of_mem_take hx))⟩)⟩
      rw [List.length_take, List.length_drop]; omega
theorem ev_rev {n : Nat} (h : Ev K N σ H0 t (TupP P n)) (f : ∀ d, TupP P n d → P' d) : Ev K N σ H0 (tRevT K t) P' := fun H Q s k =>
  h H _ s fun v d H1 s1 q ⟨ds, e, l, p⟩ => by
    subst e
    cases q with
    | tup hs ha => exact ⟨_, _, rfl, hs, fun p' np => k _ _ _ (s1.trans (same_new np)) (.tup (.inl (.inl upd_same)) (Dq.sameAll (same_new np) _ _ ha.reverse)) (f _ ⟨ds.reverse, rfl, by rw [List.length_reverse]; exact l, fun x hx => p x (List.mem_reverse.mp hx)⟩)⟩
theorem ev_list {n : Nat} (kN : ∀ x, N x → H0 x ≠ none) (h : Ev K N σ H0 t (TupP P n)) (f : ∀ d, LstP P n d → P' d) : Ev K N σ H0 (tCB (rListG K) (tCons t tNil)) P' := fun H Q s k =>
  h H _ s fun v d H1 s1 q ⟨ds, e, l, p⟩ => by
    subst e
    cases q with
    | tup hs ha =>
      refine ⟨_, _, rfl, hs, fun p' np hsys => ?_⟩
      have fr : ¬ N p' := fun e => by
        cases hh : H0 p' with
        | none => exact kN p' e hh
        | some o => have := (s.trans s1) _ _ hh; rw [np] at this; cases this
      exact k _ _ _ (s1.trans (same_new np)) (.lst hsys fr upd_same (Dq.sameAll (same_new np) _ _ ha)) (f _ ⟨ds, rfl, l, p⟩)
theorem ev_rep {n : Nat} {k : Int} (h : Ev K N σ H0 t (fun d => TupP P n d ∧ d ≠ .tuple [])) (hk : 2 ≤ k) (hk2 : k ≤ 1000) (hn : n ≤ 1000) (f : ∀ d, TupP P (k.toNat * n) d → P' d) : Ev K N σ H0 (tOp (rRepT K) t (tC (.int k))) P' := fun H Q s kk =>
  h H _ s fun v d H1 s1 q ⟨⟨ds, e, l, p⟩, ne⟩ => by
    subst e
    cases q with
    | @tup ad xs _ hs ha =>
      have hlen := ha.length
      refine ⟨_, k, _, rfl, rfl, hs, fun e => ?_, hk, hk2, by omega, fun p' np => kk _ _ _ (s1.trans (same_new np)) (.tup (.inl (.inl upd_same)) (Dq.sameAll (same_new np) _ _ (ha.rep k.toNat))) (f _ ⟨_, rfl, ?_, fun x hx => ?_⟩)⟩
      · subst e
        cases ha
        exact ne rfl
      · rw [PyProof.Rows.lm_len_rep_flat]
        exact Nat.mul_le_mul_left _ l
      · obtain ⟨l', h1, h2⟩ := List.mem_flatten.mp hx
        rw [List.mem_replicate] at h1
        rw [h1.2] at h2
        exact p x h2
end
end Pr
/-! Buttons, ascending tuples of them and the errors of panels, over data of any kind. -/
namespace Pr
open PySem PySem.Spec PyProof.Rows L2
theorem list_neL (l : Addr) (items : Array Value) (n : Nat) (b : Addr) (items2 : Array Value) (n2 : Nat) (hc0 : (items.size != items2.size) = true) :
    Meets (Builtin.«list.__ne__» ⟨[.ref l, .ref b], []⟩) (fun _ R s => s.heap.get? l = some { cls := .type "list", dict := none, data := .seq items n, slots := #[] } ∧ s.heap.get? b = some { cls := .type "list", dict := none, data := .seq items2 n2, slots := #[] } ∧ R (.ok (.ret (Value.bool (CmpOp.NotEq == CmpOp.NotEq)))) { s with heap := s.heap, toks := s.toks }) :=
  .of_wp fun prog w A R s h => by
    obtain ⟨hp, g, d, tk, os⟩ := s; obtain ⟨hl, hb, h⟩ := h
    have f3 := AutoSeq1.sub_list_list
    wp_walk using AutoSeq1.wpAny_loadPart' hl, AutoSeq1.wpAny_loadPart' hb
    exact ⟨_, rfl, h⟩
section
variable {X : Cx}
/-- xs != [], two lists that stand -/
def rNeE : R2 := fun x y H Q => ∃ l b xs, x = .ref l ∧ y = .ref b ∧ H l = some (.lst xs) ∧ H b = some (.lst []) ∧ Q (.bl (!xs.isEmpty)) H
theorem op_neE (hu : X.A.units + 64 < cLine) : OpR X (compareOp .NotEq) rNeE := by
  intro pins s σ H x y v u Q I rx ry h
  obtain ⟨l, b, xs, rfl, rfl, hl, hb, q⟩ := h
  by_cases e : xs = []
  · subst e
    exact op_neD hu pins s σ H _ _ v u Q I rx ry ⟨.list [], .list [], .lst (.inl (.inl hl)) .nil, .lst (.inl (.inl hb)) .nil, rfl, rfl, q⟩
  · cases rx
    cases ry
    obtain ⟨_, its, n, rv, ho⟩ := I.hok _ _ hl
    obtain ⟨_, its2, n2, rv2, ho2⟩ := I.hok _ _ hb
    cases rv2
    have hlen := rv.length
    have hne : its.toArray.size ≠ 0 := by
      rw [List.size_toArray, ← hlen]
      exact fun z => e (List.eq_nil_of_length_eq_zero z)
    have q' : Q (.bl true) H := by
      have : xs.isEmpty = false := by
        cases xs with
        | nil => exact absurd rfl e
        | cons _ _ => rfl
      rw [this] at q; exact q
    exact richCompare_meets_room (op := .NotEq) ⟨_, ho, rfl⟩ ⟨_, ho2, rfl⟩ PySem.F.slot_list_ne PySem.F.entry_list_ne (PySem.F.args_list_ne_2 _ _) (list_neL l its.toArray n b ([] : List Value).toArray n2 (by simpa using hne))
      ⟨ho, ho2, show Value.bool (CmpOp.NotEq == CmpOp.NotEq) ≠ Value.notImplemented ∧ _ from ⟨(fun z => nomatch z), .bl true, H, I, rfl, q'⟩⟩ (by omega)
end
/-! ### kinds -/
def isB : PyData → Bool
  | .bool _ => true
  | _ => false
theorem isB_kit {K : PySem.W.Frag} (d : PyData) : PySem.W.kitOne K (.type (tyD d)) (.type "bool") = some (isB d) := by
  cases d with
  | none => exact kit_ty (show kitB "NoneType" "bool" = some false by decide +kernel)
  | bool _ => exact kit_ty (show kitB "bool" "bool" = some true by decide +kernel)
  | int _ => exact kit_ty (show kitB "int" "bool" = some false by decide +kernel)
  | str _ => exact kit_ty (show kitB "str" "bool" = some false by decide +kernel)
  | list _ => exact kit_ty (show kitB "list" "bool" = some false by decide +kernel)
  | tuple _ => exact kit_ty (show kitB "tuple" "bool" = some false by decide +kernel)
  | dict _ => exact kit_ty (show kitB "dict" "bool" = some false by decide +kernel)
def isI : PyData → Bool
  | .bool _ => true
  | .int _ => true
  | _ => false
theorem isI_kit {K : PySem.W.Frag} (d : PyData) : PySem.W.kitOne K (.type (tyD d)) (.type "int") = some (isI d) := by
  cases d with
  | none => exact kit_ty (show kitB "NoneType" "int" = some false by decide +kernel)
  | bool _ => exact kit_ty (show kitB "bool" "int" = some true by decide +kernel)
  | int _ => exact kit_ty (show kitB "int" "int" = some true by decide +kernel)
  | str _ => exact kit_ty (show kitB "str" "int" = some false by decide +kernel)
  | list _ => exact kit_ty (show kitB "list" "int" = some false by decide +kernel)
  | tuple _ => exact kit_ty (show kitB "tuple" "int" = some false by decide +kernel)
  | dict _ => exact kit_ty (show kitB "dict" "int" = some false by decide +kernel)
def isT : PyData → Bool
  | .tuple _ => true
  | _ => false
theorem isT_kit {K : PySem.W.Frag} (d : PyData) : PySem.W.kitOne K (.type (tyD d)) (.type "tuple") = some (isT d) := by
  cases d with
  | none => exact kit_ty (show kitB "NoneType" "tuple" = some false by decide +kernel)
  | bool _ => exact kit_ty (show kitB "bool" "tuple" = some false by decide +kernel)
  | int _ => exact kit_ty (show kitB "int" "tuple" = some false by decide +kernel)
  | str _ => exact kit_ty (show kitB "str" "tuple" = some false by decide +kernel)
  | list _ => exact kit_ty (show kitB "list" "tuple" = some false by decide +kernel)
  | tuple _ => exact kit_ty (show kitB "tuple" "tuple" = some true by decide +kernel)
  | dict _ => exact kit_ty (show kitB "dict" "tuple" = some false by decide +kernel)
/-! ### the mathematics -/
def isBtn (n : Int) : PyData → Bool
  | .int i => decide (0 ≤ i) && decide (i < n)
  | _ => false
def ascFrom (n : Int) : Int → List PyData → Bool
  | _, [] => true
  | b, .int i :: r => decide (0 ≤ i) && decide (i < n) && decide (b < i) && ascFrom n i r
  | _, _ :: _ => false
def btnT (n : Int) : PyData → Bool
  | .tuple ds => ascFrom n (-1) ds
  | _ => false
def dErr (k : PyData) (x : Str) : PyData := .tuple [k, .str x]
def hasInt (k : Int) : PyData → Bool
  | .tuple ds => ds.any fun d => match d with | .int i => decide (i = k) | _ => false
  | _ => false
def errFrom (n : Int) : Nat → List PyData → PyData
  | _, [] => .none
  | k, d :: r => if btnT n d then (if hasInt (k : Int) d then dErr (.int (k : Int)) "itself" else errFrom n (k + 1) r) else dErr (.int (k : Int)) "list"
def errD : PyData → PyData
  | .tuple ds => if 1 ≤ ds.length ∧ ds.length ≤ 10 then errFrom (ds.length : Int) 0 ds else dErr .none "panel"
  | _ => dErr .none "panel"
theorem ascFrom_ints {n : Int} : ∀ {b : Int} {ds : List PyData}, ascFrom n b ds = true → ∃ ns : List Int, ds = ns.map PyData.int ∧ ns.Pairwise (· < ·) ∧ ∀ x ∈ ns, b < x ∧ 0 ≤ x ∧ x < n
  | b, [], _ => ⟨[], rfl, List.Pairwise.nil, fun _ h => by cases h⟩
  | b, d :: r, h => by
    cases d with
    | int i =>
      simp only [ascFrom, Bool.and_eq_true, decide_eq_true_eq] at h
      obtain ⟨ns, rfl, h2, h3⟩ := ascFrom_ints h.2
      refine ⟨i :: ns, rfl, List.pairwise_cons.mpr ⟨fun x hx => (h3 x hx).1, h2⟩, fun x hx => ?_⟩
      rcases List.mem_cons.mp hx with rfl | hx
      · exact ⟨h.1.2, h.1.1⟩
      · have := h3 x hx; omega
    | none => simp [ascFrom] at h
    | bool _ => simp [ascFrom] at h
    | str _ => simp [ascFrom] at h
    | list _ => simp [ascFrom] at h
    | tuple _ => simp [ascFrom] at h
    | dict _ => simp [ascFrom] at h
theorem ascFrom_of {n : Int} : ∀ {b : Int} {ns : List Int}, ns.Pairwise (· < ·) → (∀ x ∈ ns, b < x ∧ 0 ≤ x ∧ x < n) → ascFrom n b (ns.map PyData.int) = true
  | b, [], _, _ => rfl
  | b, i :: r, h, h2 => by
    rw [List.pairwise_cons] at h
    have hi := h2 i List.mem_cons_self
    simp only [List.map_cons, ascFrom, Bool.and_eq_true, decide_eq_true_eq]
    exact ⟨⟨⟨hi.2.1, hi.2.2⟩, hi.1⟩, ascFrom_of h.2 fun x hx => ⟨h.1 x hx, (h2 x (List.mem_cons_of_mem _ hx)).2⟩⟩
theorem hasInt_ints {k : Int} (ns : List Int) : hasInt k (.tuple (ns.map PyData.int)) = decide (k ∈ ns) := by
  show (ns.map PyData.int).any _ = _
  rw [List.any_map, Bool.eq_iff_iff, List.any_eq_true, decide_eq_true_eq]
  constructor
  · rintro ⟨x, hx, e⟩
    have e' : x = k := by simpa using e
    rw [← e']; exact hx
  · intro h
    exact ⟨k, h, by simp⟩
theorem dqAll_of_ints {K : PySem.W.Frag} {N : Addr → Prop} {H : Hp} : ∀ {xs : List V} {ns : List Int}, DqAll K N H xs (ns.map PyData.int) → xs = ns.map V.int
  | _, [], h => by cases h; rfl
  | _, x :: r, h => by
    cases h with
    | cons h1 h2 => cases h1; rw [List.map_cons, dqAll_of_ints h2]
theorem errFrom_drop {n : Int} {ds : List PyData} {i : Nat} {d : PyData} (h : ds[i]? = some d) : errFrom n i (ds.drop i) = if btnT n d then (if hasInt (i : Int) d then dErr (.int (i : Int)) "itself" else errFrom n (i + 1) (ds.drop (i + 1))) else dErr (.int (i : Int)) "list" := by
  have hi := (List.getElem?_eq_some_iff.mp h).1
  have : ds.drop i = d :: ds.drop (i + 1) := by
    rw [List.drop_eq_getElem_cons hi, (List.getElem?_eq_some_iff.mp h).2]
  rw [this]; rfl
theorem eqv_intsL : ∀ (ns ms : List Int), PyData.eqvAll (ns.map PyData.int) (ms.map PyData.int) = decide (ns = ms)
  | [], [] => by simp [PyData.eqvAll]
  | [], _ :: _ => by simp [PyData.eqvAll]
  | _ :: _, [] => by simp [PyData.eqvAll]
  | x :: r, y :: t => by
    simp only [List.map_cons, PyData.eqvAll, PyData.eqv, eqv_intsL r t]
    by_cases h : x = y <;> by_cases h2 : r = t <;> simp [h, h2]
theorem canLay_ints : ∀ ns : List Int, PyData.canLayAll0 (ns.map PyData.int) = true ∧ PyData.depthAll (ns.map PyData.int) = 0
  | [] => ⟨by simp [PyData.canLayAll0], by simp [PyData.depthAll]⟩
  | x :: r => by
    obtain ⟨h1, h2⟩ := canLay_ints r
    exact ⟨by simp [PyData.canLayAll0, PyData.canLay0, h1], by simp [PyData.depthAll, PyData.depth, h2]⟩
theorem shaped_ints (ns : List Int) : SeqAt.shaped (.list (ns.map PyData.int)) = true := by
  obtain ⟨h1, h2⟩ := canLay_ints ns
  simp [SeqAt.shaped, PyData.canLay0, PyData.depth, h1, h2]
end Pr
/-! Tuples of tuples of ints compared; slices of tuples; bools. -/
namespace Pr
open PySem PySem.Spec PyProof.Rows L2
theorem shp_ints (ns : List Int) : SeqAt.shaped (dInts ns) = true := by
  obtain ⟨h1, h2⟩ := canLay_ints ns
  simp [dInts, SeqAt.shaped, PyData.canLay0, PyData.depth, h1, h2]
theorem eqv_di (ns ms : List Int) : PyData.eqv (dInts ns) (dInts ms) = decide (ns = ms) := by
  unfold dInts
  simp only [PyData.eqv]
  exact eqv_intsL ns ms
theorem eqv_rowsA : ∀ (a b : List (List Int)), PyData.eqvAll (a.map dInts) (b.map dInts) = decide (a = b)
  | [], [] => by simp [PyData.eqvAll]
  | [], _ :: _ => by simp [PyData.eqvAll]
  | _ :: _, [] => by simp [PyData.eqvAll]
  | x :: r, y :: t => by
    simp only [List.map_cons, PyData.eqvAll, eqv_di, eqv_rowsA r t]
    by_cases h : x = y <;> by_cases h2 : r = t <;> simp [h, h2]
theorem eqv_rowsT (a b : List (List Int)) : PyData.eqv (.tuple (a.map dInts)) (.tuple (b.map dInts)) = decide (a = b) := by
  simp only [PyData.eqv]; exact eqv_rowsA a b
theorem eqv_rowsL (a b : List (List Int)) : PyData.eqv (.list (a.map dInts)) (.list (b.map dInts)) = decide (a = b) := by
  simp only [PyData.eqv]; exact eqv_rowsA a b
theorem lay_rows : ∀ a : List (List Int), PyData.canLayAll0 (a.map dInts) = true ∧ PyData.depthAll (a.map dInts) ≤ 1
  | [] => ⟨by simp [PyData.canLayAll0], by simp [PyData.depthAll]⟩
  | x :: r => by
    obtain ⟨h1, h2⟩ := lay_rows r
    obtain ⟨g1, g2⟩ := canLay_ints x
    refine ⟨by simp [PyData.canLayAll0, dInts, PyData.canLay0, h1, g1], ?_⟩
    simp only [List.map_cons, PyData.depthAll, dInts, PyData.depth, g2]
    omega
theorem shp_rowsT (a : List (List Int)) : SeqAt.shaped (.tuple (a.map dInts)) = true := by
  obtain ⟨h1, h2⟩ := lay_rows a
  simp only [SeqAt.shaped, PyData.canLay0, PyData.depth, h1, Bool.true_and]
  exact decide_eq_true (by omega)
theorem shp_rowsL (a : List (List Int)) : SeqAt.shaped (.list (a.map dInts)) = true := by
  obtain ⟨h1, h2⟩ := lay_rows a
  simp only [SeqAt.shaped, PyData.canLay0, PyData.depth, h1, Bool.true_and]
  exact decide_eq_true (by omega)
def dNone : PyData → Bool
  | .none => true
  | _ => false
section
variable {K : PySem.W.Frag} {σ : L2.St} {H : Hp} {t tk ta tb : TE}
theorem gvi_enumL {α : Type} {δ : α → PyData} {as : List α} (h : Gv K t σ H (.list (as.map δ))) : GvI K Same (iEnum K (tCons t tNil)) σ H (as.zipIdx.map fun x => .tuple [.int (x.2 : Nat), δ x.1]) := fun H1 s Q q => h H1 s _ fun v H2 s2 d2 => by
  obtain ⟨a, xs, rfl, hq, hr⟩ := d2.lstI
  refine ⟨a, xs, rfl, hq, q _ H2 s2 ?_⟩
  have hl : xs.length = as.length := by rw [hr.length, List.length_map]
  rw [List.length_map, List.length_zipIdx, ← hl]
  refine walk_enum.mono (fun h e => e.seq hq) fun i h x h' hi e y => ?_
  obtain ⟨T, x1, x2, rfl, nT, rfl, e1, e2⟩ := y
  cases e1
  have hi' : i < as.length := by omega
  obtain ⟨v, hv, dv⟩ := hr.get i (δ as[i]) (by rw [List.getElem?_map, List.getElem?_eq_getElem hi']; rfl)
  replace e2 : xs[i]? = some x2 := e2
  rw [hv] at e2; cases e2
  have sT : Same h (upd h T (.tup [.int (i : Nat), x2])) := same_new nT
  refine ⟨sT, .tuple [.int (i : Nat), δ as[i]], ?_, .tup (.inl (.inl upd_same)) (.cons (.int _) (.cons ((dv.sm e).sm sT) .nil))⟩
  rw [List.getElem?_map, List.getElem?_zipIdx, List.getElem?_eq_getElem hi']
  simp
theorem set_three (σ : L2.St) (i j l : Nat) (v u x : V) : ((((((((σ.set l none).set j none).set i none).set i (some v)).set j (some u)).set l (some x)).set l none).set j none).set i none = ((σ.set l none).set j none).set i none := by
  refine List.ext_getElem? fun m => ?_
  simp only [List.getElem?_set, List.length_set]
  split <;> split <;> (try split) <;> simp_all
theorem gn_lc3 {wi : TI} {tt : TT} {te : TE} {i j l : Nat} {α : Type} {δ1 δ2 δ3 : α → PyData} {as : List α} {p : α → Bool} {f : α → PyData} (hI : GvI K Same wi σ H (as.map fun a => .tuple [δ1 a, δ2 a, δ3 a]))
    (hb : ∀ a v u x H1, a ∈ as → Same H H1 → Dp K H1 v (δ1 a) → Dp K H1 u (δ2 a) → Dp K H1 x (δ3 a) → GvT tt ((((((σ.set l none).set j none).set i none).set i (some v)).set j (some u)).set l (some x)) H1 (p a) ∧ (p a = true → Gv K te ((((((σ.set l none).set j none).set i none).set i (some v)).set j (some u)).set l (some x)) H1 (f a)))
    (hf : ∀ a ∈ as, lf (f a) = true) (hn : as.length ≤ 100000) (hij : i ≠ j) (hil : i ≠ l) (hjl : j ≠ l) : GvN K (tLc wi (gTup K 3 (gCons (gName i) (gCons (gName j) (gCons (gName l) gNil)))) tt te [i, j, l]) σ H ((as.filter p).map f) := by
  intro H0 s0 Q q
  refine hI H0 s0 _ fun J H1 s1 w D nD => ?_
  rw [List.length_map] at w
  refine lc_it w (LcP K H1 D fun k => ((as.take k).filter p).map f) ⟨fun b o hb e => by rw [upd_ne hb]; exact e, [], upd_same, .nil, Nat.zero_le _⟩ (fun k H2 _ hP b o e => hP.1 b o (ne_of_none e nD) e) (fun k x H2 H3 hk hP hY => ?_) (fun H2 hP => ?_)
  · obtain ⟨s2, acc, eD, hacc, la⟩ := hP
    obtain ⟨s3, d, hd, dx⟩ := hY
    rw [List.getElem?_map, List.getElem?_eq_getElem hk] at hd
    cases hd
    have sH : Same H H3 := (s0.trans s1).trans fun b o e => s3 _ _ (s2 b o (ne_of_none e nD) e)
    obtain ⟨T, xs, rfl, hT, hr⟩ := dx.tupI
    obtain ⟨v, u, x, rfl, dv, du, dx3⟩ := dpAll3 hr
    obtain ⟨g1, g2⟩ := hb as[k] v u x H3 (List.getElem_mem _) sH dv du dx3
    refine ⟨T, [v, u, x], rfl, hT, rfl, v, [u, x], rfl, u, [x], rfl, x, [], rfl, rfl, ?_, g1.at fun H4 s4 => ?_⟩
    · exact set_three _ _ _ _ _ _ _
    cases hp : p as[k] with
    | true =>
      rw [if_pos rfl]
      refine (g2 hp).sm s4 |>.at fun y H5 s5 dy => ⟨acc, s5 _ _ (s4 _ _ (s3 _ _ eD)), small5 (by omega), ?_⟩
      exact lcP_yes s2 ((s3.trans s4).trans s5) eD hacc la dy (by rw [fil_take hk, hp]; rfl) (lf_fil hf _)
    | false =>
      rw [if_neg Bool.false_ne_true]
      exact lcP_no s2 (s3.trans s4) eD hacc la (by rw [fil_take hk, hp]; exact List.append_nil _)
  · obtain ⟨s2, acc, eD, hacc, la⟩ := hP
    replace hacc : DpAll K H2 acc (((as.take as.length).filter p).map f) := hacc
    rw [List.take_length] at hacc
    exact q _ _ H2 (s1.trans fun b o e => s2 b o (ne_of_none e nD) e) (s1.free nD) eD hacc
theorem gn_repL1 {d : PyData} {k : Nat} (ha : GvL K ta σ H [d]) (hb : Gv K tb σ H (.int (k : Int))) (hk : k ≤ 1000) : GvN K (tOp rRep ta tb) σ H (List.replicate k d) := fun H1 s Q q =>
  ha H1 s _ fun a vs H2 s2 e dv => hb H2 (s.trans s2) _ fun y H3 s3 dy => by
    cases dy
    obtain ⟨v, rfl, dv1⟩ := dpAll1 dv
    refine ⟨a, (k : Int), [v], rfl, rfl, s3 _ _ e, by omega, by omega, by rw [Int.toNat_natCast]; show 1 * k ≤ _; exact Nat.le_of_lt (small1000 (by omega)), fun p np => ?_⟩
    have sp := same_new (o := .lst (List.replicate ((k : Nat) : Int).toNat [v]).flatten) np
    refine q p (List.replicate k v) _ ((s2.trans s3).trans sp) ((s2.trans s3).free np) ?_ ?_
    · rw [upd_same, Int.toNat_natCast, rep_flatA]
    · have : ∀ m, DpAll K (upd H3 p (.lst (List.replicate ((k : Nat) : Int).toNat [v]).flatten)) (List.replicate m v) (List.replicate m d) := fun m => by
        induction m with
        | zero => exact .nil
        | succ m ih => exact .cons ((dv1.sm s3).sm sp) ih
      exact this k
theorem gv_cutToG {ds : List PyData} {k : Nat} (h : Gv K t σ H (.tuple ds)) (hk : Gv K tk σ H (.int (k : Int))) (hl : k ≤ ds.length) : Gv K (tSl (rSlS K) t tNoPart (tPart tk)) σ H (.tuple (ds.take k)) := fun H1 s Q q => h H1 s _ fun v H2 s2 dv => hk H2 (s.trans s2) _ fun vk H3 s3 dk => by
  cases dk
  obtain ⟨a, xs, rfl, ha, hr⟩ := dv.tupI
  refine ⟨(k : Int), rfl, a, _, rfl, same_sqT s3 ha, fun p H4 s4 hp => q _ H4 ((s2.trans s3).trans s4) (.tup hp ?_)⟩
  have := cut_dp ((hr.sm s3).sm s4) none (some (k : Int))
  rw [HT.sIx_none, HT.sIx_nat, Nat.min_eq_left hl, List.drop_zero, Nat.sub_zero] at this
  exact this
theorem gv_cutFromG {ds : List PyData} {k : Nat} (h : Gv K t σ H (.tuple ds)) (hk : Gv K tk σ H (.int (k : Int))) (hl : k ≤ ds.length) : Gv K (tSl (rSlS K) t (tPart tk) tNoPart) σ H (.tuple (ds.drop k)) := fun H1 s Q q => h H1 s _ fun v H2 s2 dv => hk H2 (s.trans s2) _ fun vk H3 s3 dk => by
  cases dk
  obtain ⟨a, xs, rfl, ha, hr⟩ := dv.tupI
  refine ⟨(k : Int), rfl, a, _, rfl, same_sqT s3 ha, fun p H4 s4 hp => q _ H4 ((s2.trans s3).trans s4) (.tup hp ?_)⟩
  have := cut_dp ((hr.sm s3).sm s4) (some (k : Int)) none
  rw [HT.sIx_none, HT.sIx_nat, Nat.min_eq_left hl, List.take_of_length_le (by rw [List.length_drop]; omega)] at this
  exact this
theorem gv_intB {b : Bool} {r : List V → Hp → VK → Prop} (hr : r = fun xs H Q => (∃ i, xs = [.int i] ∧ Q (.int i) H) ∨ ∃ k, xs = [.bl k] ∧ Q (.int (if k then 1 else 0)) H) (h : Gv K t σ H (.bool b)) : Gv K (tCB r (tCons t tNil)) σ H (.int (if b then 1 else 0)) := by
  subst hr
  refine gv_cb (gva_cons h gva_nil) fun vs H1 Q s hd q => ?_
  obtain ⟨v, rfl, hv⟩ := dpAll1 hd
  cases hv
  exact .inr ⟨b, rfl, q _ _ (Same.refl _) (.int _)⟩
theorem gv_eqI1 {l m : List Int} (ha : Gv K ta σ H (dInts l)) (hb : Gv K tb σ H (dInts m)) : Gv K (tOp (rEqD K) ta tb) σ H (.bool (decide (l = m))) := (gv_eqD ha hb (shp_ints _) (shp_ints _)).to (by rw [eqv_di])
theorem gv_neI1 {l m : List Int} (ha : Gv K ta σ H (dInts l)) (hb : Gv K tb σ H (dInts m)) : Gv K (tOp (rNeD K) ta tb) σ H (.bool (!decide (l = m))) := (gv_neD ha hb (shp_ints _) (shp_ints _)).to (by rw [eqv_di])
theorem gv_neI2 {l m : List (List Int)} (ha : Gv K ta σ H (.tuple (l.map dInts))) (hb : Gv K tb σ H (.tuple (m.map dInts))) : Gv K (tOp (rNeD K) ta tb) σ H (.bool (!decide (l = m))) := (gv_neD ha hb (shp_rowsT _) (shp_rowsT _)).to (by rw [eqv_rowsT])
theorem gv_neI3 {l m : List (List Int)} (ha : Gv K ta σ H (.list (l.map dInts))) (hb : Gv K tb σ H (.list (m.map dInts))) : Gv K (tOp (rNeD K) ta tb) σ H (.bool (!decide (l = m))) := (gv_neD ha hb (shp_rowsL _) (shp_rowsL _)).to (by rw [eqv_rowsL])
theorem cutTo (l : List Int) (m : Nat) : cutV (l.map V.int) none (some (m : Int)) = (l.take m).map V.int := by
  unfold cutV
  rw [List.length_map, HT.sIx_none, HT.sIx_nat, List.drop_zero, Nat.sub_zero, ← List.map_take]
  congr 1
  by_cases h : m ≤ l.length
  · rw [Nat.min_eq_left h]
  · rw [Nat.min_eq_right (by omega), List.take_of_length_le (Nat.le_refl _), List.take_of_length_le (by omega)]
theorem cutFrom (l : List Int) (m : Nat) : cutV (l.map V.int) (some (m : Int)) none = (l.drop m).map V.int := by
  unfold cutV
  rw [List.length_map, HT.sIx_nat, HT.sIx_none, ← List.map_drop]
  by_cases h : m ≤ l.length
  · rw [Nat.min_eq_left h]
    exact List.take_of_length_le (by rw [List.length_map, List.length_drop]; omega)
  · rw [Nat.min_eq_right (by omega), List.drop_eq_nil_of_le (Nat.le_refl _), List.drop_eq_nil_of_le (show l.length ≤ m by omega)]
    simp
theorem gv_cutTo {l : List Int} {k : Nat} (h : Gv K t σ H (dInts l)) (hk : Gv K tk σ H (.int (k : Int))) : Gv K (tSl (rSlS K) t tNoPart (tPart tk)) σ H (dInts (l.take k)) := fun H1 s Q q => h H1 s _ fun v H2 s2 dv => hk H2 (s.trans s2) _ fun vk H3 s3 dk => by
  cases dk
  obtain ⟨a, rfl, ha⟩ := dv.intsI
  refine ⟨(k : Int), rfl, a, _, rfl, same_sqT s3 ha, fun p H4 s4 hp => q _ H4 ((s2.trans s3).trans s4) ?_⟩
  rw [cutTo] at hp
  exact dp_ints hp
theorem gv_cutFrom {l : List Int} {k : Nat} (h : Gv K t σ H (dInts l)) (hk : Gv K tk σ H (.int (k : Int))) : Gv K (tSl (rSlS K) t (tPart tk) tNoPart) σ H (dInts (l.drop k)) := fun H1 s Q q => h H1 s _ fun v H2 s2 dv => hk H2 (s.trans s2) _ fun vk H3 s3 dk => by
  cases dk
  obtain ⟨a, rfl, ha⟩ := dv.intsI
  refine ⟨(k : Int), rfl, a, _, rfl, same_sqT s3 ha, fun p H4 s4 hp => q _ H4 ((s2.trans s3).trans s4) ?_⟩
  rw [cutFrom] at hp
  exact dp_ints hp
theorem gv_cat1 {l m : List Int} (ha : Gv K ta σ H (dInts l)) (hb : Gv K tb σ H (dInts m)) (hn : l.length + m.length ≤ 100000) : Gv K (tOp (rCatS K) ta tb) σ H (dInts (l ++ m)) := (gv_catT ha hb (by rw [List.length_map, List.length_map]; exact hn)).to (by unfold dInts; rw [List.map_append])
theorem gv_notT {b : Bool} (h : Gv K t σ H (.bool b)) : Gv K (tOp rNotT t (tC (.bl true))) σ H (.bool (!b)) := gv_op2 h gv_bl fun x y H1 Q s hx hy q => by
  cases hx; cases hy
  exact ⟨b, rfl, rfl, q _ _ (Same.refl _) (.bl _)⟩
theorem gv_isN {d : PyData} (h : Gv K t σ H d) {r : R2} (hr : r = (fun x y H Q => y = .non ∧ Q (.bl (decide (x = .non))) H)) : Gv K (tOp r t (tC .non)) σ H (.bool (dNone d)) := by
  subst hr
  refine gv_op2 h gv_non fun x y H1 Q s hx hy q => ?_
  cases hy
  refine ⟨rfl, q _ _ (Same.refl _) ?_⟩
  have : decide (x = V.non) = dNone d := by
    cases hx <;> simp [dNone]
  rw [this]; exact .bl _
theorem gv_notN {d : PyData} (h : Gv K t σ H d) {r : R2} (hr : r = (fun x y H Q => y = .non ∧ Q (.bl (!decide (x = .non))) H)) : Gv K (tOp r t (tC .non)) σ H (.bool (!dNone d)) := by
  subst hr
  refine gv_op2 h gv_non fun x y H1 Q s hx hy q => ?_
  cases hy
  refine ⟨rfl, q _ _ (Same.refl _) ?_⟩
  have : decide (x = V.non) = dNone d := by
    cases hx <;> simp [dNone]
  rw [this]; exact .bl _
end
end Pr
namespace K61
open PySem PySem.Spec PyProof.Rows L2 Pr
def topS (i : Nat) : Stmt := PySem.Challenge.pw_pressrelease_k61_panels_parsed.main.body.getD i (.Pass ⟨0, 0, 0, 0⟩)
abbrev sWordsOf : Stmt := topS 11
abbrev sByText : Stmt := topS 12
abbrev sBtn : Stmt := topS 8
abbrev sBtnT : Stmt := topS 9
abbrev sPList : Stmt := topS 13
abbrev sParse : Stmt := topS 14
abbrev sDraws : Stmt := topS 16
abbrev sNext : Stmt := topS 17
abbrev sOne : Stmt := topS 18
abbrev sPanel : Stmt := topS 19
abbrev sLPanT : Stmt := topS 22
abbrev sNum : Stmt := topS 23
abbrev sLList : Stmt := topS 24
abbrev sDue : Stmt := topS 25
abbrev sBent : Stmt := topS 27
abbrev sOdd : Stmt := topS 28
abbrev sTold : Stmt := topS 29
abbrev sWri : Stmt := topS 30
abbrev sLaw : Stmt := topS 31

theorem tup_but3K {H H' : Hp} {a c r : Addr} {m : Nat} (d : Dk3 H a c r m) (b : But a r H H') : Kp H H' :=
  ⟨fun p xs h => tup_but3 d b h, fun p o u h => by have q := d.apart h (fun _ => by intro z; cases z); exact b _ _ q.1 q.2 h⟩
theorem gv_cut63 {K : PySem.W.Frag} {σ : L2.St} {H : Hp} {t : TE} {ns : List Int} (h : Gv K t σ H (.list (ns.map PyData.int))) (hl : ns.length ≤ 63) : Gv K (tSl (rSlL K) t tNoPart (tPart (tC (.int 63)))) σ H (.list (ns.map PyData.int)) := fun H1 s Q q => h H1 s _ fun v H2 s2 dv => by
  obtain ⟨a, xs, rfl, ha, hr⟩ := dv.lstI
  rw [dpAll_intsV hr] at ha
  refine ⟨63, rfl, a, _, rfl, ha, fun p np => q _ _ (s2.trans (same_new np)) ?_⟩
  rw [cut63 ns hl]
  exact .lst (.inl (.inl upd_same)) (by rw [← dpAll_intsV hr]; exact hr.sm (same_new np))
theorem gv_geI {K : PySem.W.Frag} {σ : L2.St} {H : Hp} {ta tb : TE} {i j : Int} (ha : Gv K ta σ H (.int i)) (hb : Gv K tb σ H (.int j)) : Gv K (tOp (rI0 fun i j => V.bl (decide (j ≤ i))) ta tb) σ H (.bool (decide (j ≤ i))) := gv_I0 ha hb fun _ => .bl _
theorem gv_lt {K : PySem.W.Frag} {σ : L2.St} {H : Hp} {ta tb : TE} {i j : Int} (ha : Gv K ta σ H (.int i)) (hb : Gv K tb σ H (.int j)) : Gv K (tOp (rI0 fun i j => .bl (decide (i < j))) ta tb) σ H (.bool (decide (i < j))) := gv_I0 ha hb fun _ => .bl _
theorem gv_abs {K : PySem.W.Frag} {σ : L2.St} {H : Hp} {t : TE} {i : Int} (h : Gv K t σ H (.int i)) : Gv K (tCB (fun xs H Q => ∃ i, xs = [.int i] ∧ Q (.int (if i < 0 then -i else i)) H) (tCons t tNil)) σ H (.int (if i < 0 then -i else i)) :=
  gv_cb (gva_cons h gva_nil) fun vs H1 Q s hd q => by
    obtain ⟨v, rfl, hv⟩ := dpAll1 hd
    cases hv
    exact ⟨i, rfl, q _ _ (Same.refl _) (.int _)⟩

theorem lf_rowsQ (p : List (List Int)) : lfAll (p.map dInts) = true := lfAll_of fun d hd => by
  obtain ⟨l, _, rfl⟩ := List.mem_map.mp hd
  exact lf_ints l
theorem dpAll_ints' {K : PySem.W.Frag} {H : Hp} (l : List Int) : DpAll K H (l.map V.int) (l.map PyData.int) := by
  induction l with
  | nil => exact .nil
  | cons x l ih => exact .cons (.int x) ih
theorem good_of {nn : Nat} {pan : List (List Int)} (hpl : pan.length = nn) (h1 : 1 ≤ nn) (h10 : nn ≤ 10) (hpan : ∀ (j : Nat) (l : List Int), pan[j]? = some l → l.Pairwise (· < ·) ∧ ∀ x ∈ l, 0 ≤ x ∧ x < (nn : Int) ∧ x ≠ (j : Int)) : Good pan := by
  refine ⟨by omega, by omega, fun l hl => ?_, fun l hl x hx => ?_, fun i l h hi => ?_⟩
  · obtain ⟨j, hj⟩ := List.getElem?_of_mem hl
    exact (hpan j l hj).1
  · obtain ⟨j, hj⟩ := List.getElem?_of_mem hl
    have := (hpan j l hj).2 x hx
    omega
  · exact ((hpan i l h).2 _ hi).2.2 rfl

def nDraws : List Str := ["_law_script", "_law_cells", "_law_cell"]
theorem scDraws : FnScope nDraws ["_law_script"] (defScope sDraws) := ⟨rfl, rfl, rfl, by decide +kernel, rfl, by decide +kernel, by decide +kernel⟩
section
variable {P : Program} {w : World} {K : PySem.W.Frag} {mg : Str → Option Value} {base : Heap}
def spDraws (K : PySem.W.Frag) : Sp := fun vs H Q _ => ∃ (s : Addr) (ns : List Int), vs = [.ref s] ∧ SqL K H s (ns.map V.int) ∧ ns.length ≤ 63 ∧
  ∀ H' a c r, Same H H' → Dk3 H' a c r 1000000 → Q (.ref a) H'
theorem ok_Draws  {f : Addr} {fd : FuncData} {k : Nat} (F : Fun K "_law_draws" "_law_draws" sDraws f fd)
    (m_abs : mg "abs" = none) (m_int : mg "int" = none) (m_len : mg "len" = none) : FnOk P w K mg base CX0 (k + 1) f fd ["_law_script"] (spDraws K) := by
  refine F.ok scDraws (fun vs H Q E h => ?_) (fun cdv A outer s H vs Q E hr h => ?_)
  · obtain ⟨s, ns, rfl, _⟩ := h
    rfl
  · obtain ⟨sa, ns, rfl, hS, hlen, q⟩ := h
    refine ⟨_, pss_cons (ps_set (i := 1) scDraws.nd rfl (.inl rfl) (pe_op op_cat (pe_lc (own := [("_law_cell", 2)]) (g := gName 2) (tt := tYes) rfl scDraws.nd (show PI _ _ _ (iList K _) from pi_list (pe_slice (show SlR _ (rSlL K) from sl_list) (pv 0) po_none (po_some pe_int))) (blkOk_by (own := [("_law_cell", 2)]) (N := nDraws) (sc := defScope sDraws) (by decide +kernel)) (fun _ _ _ _ _ => pg_name (i := 2) scDraws.nd rfl (Or.inl rfl)) (fun _ _ _ _ _ => pts_nil) (fun _ _ _ _ _ => pe_callB call_abs (by rfl) m_abs (by decide +kernel) (pa_cons (pv 2) pa_nil))) (pe_op op_rep (pe_lst (pa_cons pe_int pa_nil)) (pe_callTy call_int1 (by rfl) m_int (by decide +kernel) (pa_cons (pe_cmpR op_eq (pe_callB (show CallR _ _ (rLenG K) from cr_lenG) (by rfl) m_len PySem.boot_len (pa_cons (pv 0) pa_nil)) pe_int (nomark _)) pa_nil)))))
      (pss_one (ps_ret (pe_lst (pa_cons (pv 1) (pa_cons pe_int (pa_cons (pe_lc (own := [("_law_cell", 2)]) (g := gName 2) (tt := tYes) rfl scDraws.nd (show PI _ _ _ (iList K _) from pi_list (pv 1)) (blkOk_by (own := [("_law_cell", 2)]) (N := nDraws) (sc := defScope sDraws) (by decide +kernel)) (fun _ _ _ _ _ => pg_name (i := 2) scDraws.nd rfl (Or.inl rfl)) (fun _ _ _ _ _ => pts_nil) (fun _ _ _ _ _ => pe_op op_mul (pv 2) (pe_callTy call_int1 (by rfl) m_int (by decide +kernel) (pa_cons (pe_cmpR op_ge (pv 2) (pe_op op_pow pe_int pe_int) (nomark _)) pa_nil)))) pa_nil)))))), ?_⟩
    have dS : Dp K H (.ref sa) (.list (ns.map PyData.int)) := .lst hS (by
      refine DpAll.of_get (by simp) fun i v d h1 h2 => ?_
      rw [List.getElem?_map] at h1 h2
      cases e : ns[i]? with
      | none => rw [e] at h1; cases h1
      | some z => rw [e] at h1 h2; cases h1; cases h2; exact .int _)
    obtain ⟨k, hk, lk0, lk1⟩ : ∃ k : Nat, (if decide (((ns.map PyData.int).length : Int) = 0) = true then (1 : Int) else 0) = (k : Int) ∧ 1 ≤ ns.length + k ∧ ns.length + k ≤ 63 := by
      rw [List.length_map]
      by_cases e : ns.length = 0
      · exact ⟨1, by rw [e]; rfl, by omega, by omega⟩
      · exact ⟨0, by rw [decide_eq_false (by omega)]; rfl, by omega, by omega⟩
    refine gs_setN (gn_cat (gl_lc (δ := PyData.int) (as := ns) (p := fun _ => true) (f := fun x : Int => .int (if x < 0 then -x else x)) (gvi_list (gv_cut63 (gv_var rfl dS) hlen)) (fun x v H1 _ s dx => ⟨gvt_yes, fun _ => gv_abs (gv_var rfl dx)⟩) (fun _ _ => rfl) (by omega))
      (gn_repL1 (k := k) (gl_lst (gva_cons gv_int gva_nil)) ((gv_intB rfl (gv_eqI (gv_lenL (gv_var rfl dS)) gv_int)).to (by rw [hk])) (by omega)).gl (by rw [List.length_map, List.filter_eq_self.mpr (fun _ _ => rfl), List.length_replicate]; omega)) fun c cs H1 s1 nc ec dc => ?_
    obtain ⟨cells, hcells, lcs⟩ : ∃ cells : List Int, ((ns.filter fun _ => true).map fun x : Int => PyData.int (if x < 0 then -x else x)) ++ List.replicate k (PyData.int 0) = cells.map PyData.int ∧ cells.length = ns.length + k := by
      refine ⟨(ns.map fun x => if x < 0 then -x else x) ++ List.replicate k 0, ?_, by simp⟩
      rw [List.filter_eq_self.mpr (fun _ _ => rfl), List.map_append, List.map_map, List.map_replicate]; rfl
    rw [hcells] at dc
    have ecs := dpAll_intsV dc
    have dC : Dp K H1 (.ref c) (.list (cells.map PyData.int)) := .lst (.inl (.inl ec)) dc
    refine ⟨.ref c, rfl, ?_⟩
    unfold tCons tC
    dsimp only
    refine (gn_lc (K := K) (δ := PyData.int) (as := cells) (p := fun _ => true) (f := fun x : Int => .int (x * (if decide ((10 : Int) ^ (18 : Int).toNat ≤ x) = true then 1 else 0))) (gvi_list (gv_var rfl dC)) (fun x v H2 _ s dx => ⟨gvt_yes, fun _ => ?_⟩) (fun _ _ => rfl) (by omega)).at fun D rs H2 s2 nD eD dD => ⟨by show 3 ≤ sizeLine; decide, fun a na => ?_⟩
    · exact gv_I (gv_var rfl dx) (gv_intB rfl (gv_geI (gv_var rfl dx) (gv_I gv_int gv_int ⟨by decide, by decide, by decide⟩ (fun _ => .int _)))) (.inr (by split <;> exact ⟨by decide, by decide⟩)) (fun _ => .int _)
    · rw [List.filter_eq_self.mpr (fun _ _ => rfl)] at dD
      have erl : rs.length = cells.length := by rw [dD.length, List.length_map]
      have ers : rs = (cells.map fun x : Int => x * (if decide ((10 : Int) ^ (18 : Int).toNat ≤ x) = true then 1 else 0)).map V.int := dpAll_intsV (by rw [List.map_map]; exact dD)
      have ec2 := s2 _ _ ec
      refine q _ a c D ((s1.trans s2).trans (same_new na)) ⟨cells, _, 0, upd_same, (same_new na) _ _ (by rw [ec2, ecs]), (same_new na) _ _ (by rw [eD, ers]), Ne.symm (ne_of_none ec2 na), Ne.symm (ne_of_none eD na), ne_of_none ec nD, by omega, by omega, by rw [List.length_map], by omega⟩
end
def nNext : List Str := ["_law_state", "_law_many", "_law_cells", "_law_count", "_law_rests", "_law_index", "_law_digit", "_law_mixed"]
theorem scNext : FnScope nNext ["_law_state", "_law_many"] (defScope sNext) := ⟨rfl, rfl, rfl, by decide +kernel, rfl, by decide +kernel, by decide +kernel⟩
section
variable {P : Program} {w : World} {K : PySem.W.Frag} {mg : Str → Option Value} {base : Heap}
def spNext : Sp := fun vs H Q _ => ∃ (a c r : Addr) (m : Nat) (lim : Int), vs = [.ref a, .int lim] ∧ Dk3 H a c r (m + 1) ∧ 0 < lim ∧ lim < 1000000 ∧
  ∀ H' x, But a r H H' → Dk3 H' a c r m → 0 ≤ x → x < lim → Q (.int x) H'
theorem ok_Next  {f : Addr} {fd : FuncData} {k : Nat} (F : Fun K "_law_next" "_law_next" sNext f fd)
    (m_len : mg "len" = none) : FnOk P w K mg base CX0 (k + 1) f fd ["_law_state", "_law_many"] (spNext) := by
  refine F.ok scNext (fun vs H Q E h => ?_) (fun cdv A outer s H vs Q E hr h => ?_)
  · obtain ⟨a, c, r, m, lim, rfl, _⟩ := h
    rfl
  · obtain ⟨a, c, r, m, lim, rfl, hD, l0, l1, q⟩ := h
    refine ⟨_, pss_cons (ps_asg (pv 0) (pg_unl rfl (pgs_cons (pg_name (i := 2) scNext.nd rfl (Or.inl rfl)) (pgs_cons (pg_name (i := 3) scNext.nd rfl (Or.inl rfl)) (pgs_cons (pg_name (i := 4) scNext.nd rfl (Or.inl rfl)) pgs_nil)))))
      (pss_cons (ps_set (i := 5) scNext.nd rfl (.inl rfl) (pe_op op_mod (pv 3) (pe_callB (show CallR _ _ (rLenG K) from cr_lenG) (by rfl) m_len PySem.boot_len (pa_cons (pv 2) pa_nil))))
      (pss_cons (ps_asg (pe_op op_add (pv 3) pe_int) (pg_sub (pv 0) pe_int set_list))
      (pss_cons (ps_if (pt_cmpR op_gt (pe_ix (show IxR _ (rIxL K) from ix_list) (pv 4) (pv 5) (fun _ _ => rfl)) pe_int (nomark _)) (pss_cons (ps_set (i := 6) scNext.nd rfl (.inl rfl) (pe_op op_mod (pe_ix (show IxR _ (rIxL K) from ix_list) (pv 4) (pv 5) (fun _ _ => rfl)) (pv 1)))
      (pss_cons (ps_asg (pe_op op_fdiv (pe_ix (show IxR _ (rIxL K) from ix_list) (pv 4) (pv 5) (fun _ _ => rfl)) (pv 1)) (pg_sub (pv 4) (pv 5) set_list))
      (pss_one (ps_ret (pv 6))))) pss_nil)
      (pss_cons (ps_set (i := 7) scNext.nd rfl (.inl rfl) (pe_op op_mod (pe_op op_pow (pe_op op_add (pe_op op_add (pe_op op_mod (pe_ix (show IxR _ (rIxL K) from ix_list) (pv 2) (pv 5) (fun _ _ => rfl)) pe_int) (pe_op op_mul pe_int (pv 3))) pe_int) pe_int) pe_int))
      (pss_cons (ps_set (i := 7) scNext.nd rfl (.inl rfl) (pe_op op_mod (pe_op op_pow (pe_op op_add (pe_op op_add (pv 7) (pe_op op_mul (pe_op op_mul pe_int (pv 3)) (pv 3))) pe_int) pe_int) pe_int))
      (pss_one (ps_ret (pe_op op_mod (pe_op op_fdiv (pe_op op_mod (pe_op op_mul (pv 7) pe_int) pe_int) pe_int) (pv 1))))))))), ?_⟩
    obtain ⟨cells, rests, n, ha, hc, hrr, nac, nar, ncr, lc0, lc1, lr, hn⟩ := hD
    refine ⟨.ref a, rfl, a, _, rfl, .inl (.inl ha), rfl, _, _, rfl, _, _, rfl, _, _, rfl, rfl, ?_⟩
    have hcl : ((cells.map V.int).length : Int) = (cells.length : Int) := by rw [List.length_map]
    refine ⟨.int (n : Int), rfl, .ref c, rfl, c, _, rfl, .inl (.inl (.inl hc)), _, _, rfl, rfl, (by rw [hcl]; omega), ?_⟩
    rw [hcl]
    have l2 := Int.emod_nonneg (n : Int) (show ((cells.length : Int)) ≠ 0 by omega)
    have l3 := Int.emod_lt_of_pos (n : Int) (show (0 : Int) < (cells.length : Int) by omega)
    obtain ⟨j, hj⟩ : ∃ j : Nat, (n : Int) % (cells.length : Int) = (j : Int) := ⟨_, (Int.toNat_of_nonneg l2).symm⟩
    dsimp only
    rw [hj]
    have hjl : j < cells.length := by omega
    have hjr : j < rests.length := by omega
    have gj : (cells.map V.int)[j]? = some (.int cells[j]) := by rw [List.getElem?_map, List.getElem?_eq_getElem hjl]; rfl
    have gr : (rests.map V.int)[j]? = some (.int rests[j]) := by rw [List.getElem?_map, List.getElem?_eq_getElem hjr]; rfl
    refine ⟨.int (n : Int), rfl, (n : Int), 1, rfl, rfl, .ref a, rfl, a, _, 1, 1, rfl, rfl, ha, rfl, ?_⟩
    refine gen_heap (fun H1 => H1 a = some (.lst [.ref c, .int ((n : Int) + 1), .ref r]) ∧ H1 c = some (.lst (cells.map V.int)) ∧ H1 r = some (.lst (rests.map V.int)) ∧ But a r H H1)
      ⟨upd_same, by rw [upd_ne (Ne.symm nac)]; exact hc, by rw [upd_ne (Ne.symm nar)]; exact hrr, fun b o h1 _ e => by rw [upd_ne h1]; exact e⟩ fun H1 ⟨ha1, hc1, hr1, b1⟩ => ?_
    have hcs : SqL K H1 c (cells.map V.int) := .inl (.inl hc1)
    have hrs : SqL K H1 r (rests.map V.int) := .inl (.inl hr1)
    refine ⟨.ref r, rfl, .int (j : Int), rfl, r, _, _, _, rfl, rfl, hrs, atI_nat gr, _, 0, rfl, rfl, _, rfl, ite2 (fun e => ?_) (fun e => ?_)⟩
    · refine ⟨.ref r, rfl, .int (j : Int), rfl, r, _, _, _, rfl, rfl, hrs, atI_nat gr, .int lim, rfl, _, lim, rfl, rfl, l0, ?_⟩
      refine ⟨.ref r, rfl, .int (j : Int), rfl, r, _, _, _, rfl, rfl, hrs, atI_nat gr, .int lim, rfl, _, lim, rfl, rfl, ⟨l0, by omega⟩, .ref r, rfl, .int (j : Int), rfl, r, _, _, j, rfl, rfl, hr1, ixN_nat (by rw [List.length_map]; exact hjr), ?_⟩
      refine ⟨_, rfl, q _ _ (b1.trans fun b o _ h2 e => by rw [upd_ne h2]; exact e) ⟨cells, rests.set j (rests[j] / lim), n + 1, ?_, ?_, ?_, nac, nar, ncr, lc0, lc1, ?_, by omega⟩ (Int.emod_nonneg _ (by omega)) (Int.emod_lt_of_pos _ l0)⟩
      · rw [upd_ne nar, ha1]; rfl
      · rw [upd_ne ncr]; exact hc1
      · rw [upd_same, List.map_set]
      · rw [List.length_set]; exact lr
    · have m1 : 0 ≤ cells[j] % 2147483629 := Int.emod_nonneg _ (by decide)
      have m2 : cells[j] % 2147483629 < 2147483629 := Int.emod_lt_of_pos _ (by decide)
      refine ⟨.ref c, rfl, .int (j : Int), rfl, c, _, _, _, rfl, rfl, hcs, atI_nat gj, _, 2147483629, rfl, rfl, (by show (0 : Int) < 2147483629; decide), .int (n : Int), rfl, 40037, (n : Int), rfl, rfl, .inl ⟨by decide, by decide⟩, _, _, rfl, rfl, _, 9203, rfl, rfl, _, 3, rfl, rfl, ⟨by decide, by decide, ?_⟩,
        _, 2147483587, rfl, rfl, (by show (0 : Int) < 2147483587; decide), ?_⟩
      · omega
      · dsimp only
        generalize hmx : (cells[j] % 2147483629 + 40037 * (n : Int) + 9203) ^ (3 : Int).toNat % 2147483587 = mx
        have x1 : 0 ≤ mx := by rw [← hmx]; exact Int.emod_nonneg _ (by decide)
        have x2 : mx < 2147483587 := by rw [← hmx]; exact Int.emod_lt_of_pos _ (by decide)
        have nn : (5039 * (n : Int)) * (n : Int) ≤ 6007000000 * 1000000 := by
          have a1 : 5039 * (n : Int) ≤ 6007000000 := by omega
          exact Int.le_trans (Int.mul_le_mul_of_nonneg_right a1 (by omega)) (Int.mul_le_mul_of_nonneg_left (by omega) (by decide))
        have nn0 : 0 ≤ (5039 * (n : Int)) * (n : Int) := Int.mul_nonneg (by omega) (by omega)
        refine ⟨.int mx, rfl, .int (n : Int), rfl, 5039, (n : Int), rfl, rfl, .inl ⟨by decide, by decide⟩, .int (n : Int), rfl, _, (n : Int), rfl, rfl, .inr ⟨by omega, by omega⟩, mx, _, rfl, rfl, _, 43, rfl, rfl, _, 3, rfl, rfl, ⟨by decide, by decide, ?_⟩, _, 2147483563, rfl, rfl, (by show (0 : Int) < 2147483563; decide), ?_⟩
        · generalize (5039 * (n : Int)) * (n : Int) = y at nn nn0 ⊢
          omega
        · dsimp only
          generalize (mx + 5039 * (n : Int) * (n : Int) + 43) ^ (3 : Int).toNat % 2147483563 = my
          refine ⟨.int my, rfl, my, 65537, rfl, rfl, .inr ⟨by decide, by decide⟩, _, 2305843009213693951, rfl, rfl, (by show (0 : Int) < 2305843009213693951; decide), _, 8, rfl, rfl, ⟨by decide, by decide⟩, .int lim, rfl, _, lim, rfl, rfl, l0, ?_⟩
          exact q _ _ b1 ⟨cells, rests, n + 1, by rw [ha1]; rfl, hc1, hr1, nac, nar, ncr, lc0, lc1, lr, by omega⟩ (Int.emod_nonneg _ (by omega)) (Int.emod_lt_of_pos _ l0)
end
end K61
namespace K61
open PySem PySem.Spec PyProof.Rows L2 Pr
def nPanel : List Str := ["_law_state", "_law_most", "_law_many", "_law_way", "_law_found", "_law_button", "_law_some", "_law_other", "_law_digit", "_law_is_next"]
theorem scPanel : FnScope nPanel ["_law_state", "_law_most"] (defScope sPanel) := ⟨rfl, rfl, rfl, by decide +kernel, rfl, by decide +kernel, by decide +kernel⟩
section
variable {P : Program} {w : World} {K : PySem.W.Frag} {mg : Str → Option Value} {base : Heap}
def spPanel (K : PySem.W.Frag) : Sp := fun vs H Q _ => ∃ (a c r : Addr) (m : Nat) (most : Int), vs = [.ref a, .int most] ∧ Dk3 H a c r (m + 200) ∧ 1 ≤ most ∧ most ≤ 10 ∧
  ∀ H' v pan, But a r H H' → Dk3 H' a c r m → Dp K H' v (dPan pan) → Good pan → (pan.length : Int) ≤ most → Q v H'
theorem ok_Panel {fNext : Addr} {fdNext : FuncData} {f : Addr} {fd : FuncData} {k : Nat} (F : Fun K "_law_panel" "_law_panel" sPanel f fd)
    (FNext : Fun K "_law_next" "_law_next" sNext fNext fdNext) (bNext : Binds K fdNext ["_law_state", "_law_many"] []) (gNext : mg "_law_next" = some (.ref fNext))
    (m_len : mg "len" = none) (m_range : mg "range" = none) (m_tuple : mg "tuple" = none) : FnOk P w K mg base CX0 (k + 2) f fd ["_law_state", "_law_most"] (spPanel K) := by
  have GNext : FnOk P w K mg base CX0 (k + 1) fNext fdNext ["_law_state", "_law_many"] spNext := ok_Next FNext m_len
  refine F.ok scPanel (fun vs H Q E h => ?_) (fun cdv A outer s H vs Q E hr h => ?_)
  · obtain ⟨a, c, r, m, most, rfl, _⟩ := h
    rfl
  · obtain ⟨a, c, r, m, most, rfl, hD, m1, m2, q⟩ := h
    refine ⟨_, pss_cons (ps_par3 (i := 2) (j := 3) (l := 4) rfl scPanel.nd rfl rfl rfl (by decide) (by decide) (by decide) rfl rfl rfl (pa_cons (pe_op op_add pe_int (pe_call GNext (hr.mono (by omega)) (by rfl) gNext FNext.kp bNext .nil pass0 (pa_cons (pv 0) (pa_cons (pv 1) pa_nil)))) (pa_cons (pe_call GNext (hr.mono (by omega)) (by rfl) gNext FNext.kp bNext .nil pass0 (pa_cons (pv 0) (pa_cons pe_int pa_nil))) (pa_cons (pe_lst pa_nil) pa_nil))) (by rfl))
      (pss_cons (ps_for PassesOwn.never rfl (pi_range1 (by rfl) m_range (pa_cons (pv 2) pa_nil)) (pg_name (i := 5) scPanel.nd rfl (Or.inl rfl)) (pss_cons (ps_set (i := 6) scPanel.nd rfl (.inl rfl) (pe_lst pa_nil))
      (pss_cons (ps_for PassesOwn.never rfl (pi_range1 (by rfl) m_range (pa_cons (pv 2) pa_nil)) (pg_name (i := 7) scPanel.nd rfl (Or.inl rfl)) (pss_cons (ps_set (i := 8) scPanel.nd rfl (.inl rfl) (pe_call GNext (hr.mono (by omega)) (by rfl) gNext FNext.kp bNext .nil pass0 (pa_cons (pv 0) (pa_cons pe_int pa_nil))))
      (pss_cons (ps_set (i := 9) scPanel.nd rfl (.inl rfl) (pe_and (pe_cmpR op_eq (pv 3) pe_int (nomark _)) (pe_one (pe_cmpR op_eq (pv 7) (pe_op op_mod (pe_op op_add (pv 5) pe_int) (pv 2)) (nomark _)))))
      (pss_one (ps_if (PW.pt (pw_and (pt_cmpR op_ne (pv 7) (pv 5) (nomark _)) (pw_and1 (PW.pt (pw_or (pt_val (pv 9)) (pw_or1 (pt_cmpR op_lt (pv 8) (pe_ix (show IxR _ (rIxL K) from ix_list) (pe_lst (pa_cons pe_int (pa_cons pe_int (pa_cons pe_int (pa_cons pe_int (pa_cons pe_int pa_nil)))))) (pv 3) (fun _ _ => rfl)) (nomark _)))))))) (pss_one (ps_expr (show PE _ _ (tBM K "list" rAppend _ _) from pe_bm PySem.F.plainAttrs_list PySem.F.slot_list_append PySem.F.type_list_append mt_append (pv 6) (pa_cons (pv 7) pa_nil)))) pss_nil)))))
      (pss_one (ps_expr (show PE _ _ (tBM K "list" rAppend _ _) from pe_bm PySem.F.plainAttrs_list PySem.F.slot_list_append PySem.F.type_list_append mt_append (pv 4) (pa_cons (pe_callTy (show CallR _ _ (rTupG K) from cr_tupG) (by rfl) m_tuple (by decide +kernel) (pa_cons (pv 6) pa_nil)) pa_nil)))))))
      (pss_one (ps_ret (pe_callTy (show CallR _ _ (rTupG K) from cr_tupG) (by rfl) m_tuple (by decide +kernel) (pa_cons (pv 4) pa_nil))))), ?_⟩
    refine ⟨.ref a, rfl, .int most, rfl, a, c, r, m + 199, most, rfl, hD.less (by omega), by omega, by omega, fun H1 r1 b1 D1 r1a r1b => ?_⟩
    refine ⟨1, r1, rfl, rfl, .ref a, rfl, a, c, r, m + 198, 5, rfl, D1, by decide, by decide, fun H2 y b2 D2 y0 y5 => ⟨Nat.zero_le _, fun F nF => ⟨_, _, _, rfl, ?_⟩⟩⟩
    have sF : Same H2 (upd H2 F (.lst [])) := same_new nF
    have FD' := D2.fresh nF
    have b12 := b1.trans b2
    obtain ⟨nn, hnn⟩ : ∃ nn : Nat, 1 + r1 = (nn : Int) := ⟨(1 + r1).toNat, (Int.toNat_of_nonneg (by omega)).symm⟩
    obtain ⟨lim, hlim⟩ : ∃ lim : Int, ([PyData.int 1, .int 1, .int 3, .int 1, .int 5] : List PyData)[y.toNat]? = some (.int lim) := by
      obtain h | h | h | h | h : y = 0 ∨ y = 1 ∨ y = 2 ∨ y = 3 ∨ y = 4 := by omega
      all_goals (subst h; exact ⟨_, rfl⟩)
    refine gen_heap (fun H3 => But a r H H3 ∧ Dk3 H3 a c r (m + 198) ∧ H3 F = some (.lst [])) ⟨b12.trans (But.of sF), D2.same sF, upd_same⟩ fun H3 ⟨b3, D3, eF3⟩ => ?_
    dsimp only
    rw [hnn]
    have hFH : H F = none := b12.free FD'.1 FD'.2.1 nF
    refine gs_range (K := K) (n := nn) (gv_var rfl (.int (nn : Int))) (by omega) (fun _ i σ H5 => But a r H H5 ∧ Dk3 H5 a c r (m + 10 * (10 - i)) ∧
        (∃ (vs : List V) (pan : List (List Int)), H5 F = some (.lst vs) ∧ DpAll K H5 vs (pan.map dInts) ∧ pan.length = i ∧
          ∀ (j : Nat) (l : List Int), pan[j]? = some l → l.Pairwise (· < ·) ∧ ∀ x ∈ l, 0 ≤ x ∧ x < (nn : Int) ∧ x ≠ (j : Int)) ∧
        ∃ x5 x6 x7 x8 x9, σ = [some (.ref a), some (.int most), some (.int (nn : Int)), some (.int y), some (.ref F), x5, x6, x7, x8, x9])
      (fun H4 s4 => ⟨b3.trans (But.of s4), (D3.same s4).less (by omega), ⟨[], [], s4 _ _ eF3, .nil, rfl, fun j l h => by simp at h⟩, none, none, none, none, none, rfl⟩) (fun H4 i σ H5 s4 hi hP => ?_) (fun H4 σ H5 s4 hP => ?_)
    · obtain ⟨b5, D5, ⟨vs, pan, eF, dvs, hpl, hpan⟩, x5, x6, x7, x8, x9, rfl⟩ := hP
      refine gs_setN (K := K) (gn_lst gva_nil) fun S vs0 H6 s6 nS eS dv0 => ?_
      have nSF : S ≠ F := Ne.symm (ne_of_none eF nS)
      have SD := D5.fresh nS
      have hSH : H S = none := b5.free SD.1 SD.2.1 nS
      refine gs_range (K := K) (n := nn) (gv_var rfl (.int (nn : Int))) (by omega) (fun _ k σ H7 => But a r H H7 ∧ Dk3 H7 a c r (m + 10 * (10 - i) - k) ∧ H7 F = some (.lst vs) ∧ DpAll K H7 vs (pan.map dInts) ∧
          (∃ acc : List Int, H7 S = some (.lst (acc.map V.int)) ∧ acc.length ≤ k ∧ acc.Pairwise (· < ·) ∧ ∀ x ∈ acc, 0 ≤ x ∧ x < (k : Int) ∧ x ≠ (i : Int)) ∧
          ∃ x7 x8 x9, σ = [some (.ref a), some (.int most), some (.int (nn : Int)), some (.int y), some (.ref F), some (.int (i : Int)), some (.ref S), x7, x8, x9])
        (fun H7 s7 => ⟨b5.trans (But.of (s6.trans s7)), D5.same (s6.trans s7), (s6.trans s7) _ _ eF, dvs.sm (s6.trans s7), ⟨[], s7 _ _ (by cases dv0; exact eS), Nat.le_refl _, List.Pairwise.nil, fun x h => by cases h⟩, _, _, _, rfl⟩) (fun Hx k σ H7 sx hk hP => ?_) (fun Hx σ H7 sx hP => ?_)
      · obtain ⟨b7, D7, eF7, dvs7, ⟨acc, eS7, al, ap, am⟩, x7, x8, x9, rfl⟩ := hP
        refine ⟨.ref a, rfl, a, c, r, m + 10 * (10 - i) - (k + 1), 5, rfl, D7.less (by omega), by decide, by decide, fun H8 dg b8 D8 dg0 dg5 => ?_⟩
        have eF8 : H8 F = some (.lst vs) := b8 _ _ FD'.1 FD'.2.1 eF7
        have eS8 : H8 S = some (.lst (acc.map V.int)) := b8 _ _ SD.1 SD.2.1 eS7
        have kp8 := tup_but3K D7 b8
        have dvs8 := dpAll_kp kp8 _ _ (lf_rowsQ pan) dvs7
        have b78 := b7.trans b8
        unfold gName
        dsimp only
        refine gs_set1 (K := K) (gv_andV (gv_eqI (gv_var rfl (.int y)) gv_int) (fun _ => gv_eqI (gv_var rfl (.int (k : Int))) (gv_I (gv_add (gv_var rfl (.int (i : Int))) gv_int) (gv_var rfl (.int (nn : Int))) (by show (0 : Int) < (nn : Int); omega) (fun _ => .int _)))) fun vn H9 s9 dn => ?_
        have am' : ∀ x ∈ acc, 0 ≤ x ∧ x < ((k + 1 : Nat) : Int) ∧ x ≠ (i : Int) := fun x hx => by have := am x hx; omega
        refine gs_if (gvt_and (gvt_test (K := K) (gv_neI (gv_var rfl (.int (k : Int))) (gv_var rfl (.int (i : Int))))) (fun Ha sa _ => gvt_or (gvt_b (K := K) (gv_var rfl (dn.sm sa))) (fun Hb sb _ => gvt_test (K := K) (gv_lt (gv_var rfl (.int dg)) (gv_ixL (j := y.toNat) (gv_lst (gva_cons gv_int (gva_cons gv_int (gva_cons gv_int (gva_cons gv_int (gva_cons gv_int gva_nil)))))) (gv_var rfl (.int y)) (by omega) hlim))))) (fun e Hc sc => ?_) (fun e Hc sc => ?_)
        · have hne : (k : Int) ≠ (i : Int) := by
            rw [Bool.and_eq_true] at e
            have := e.1
            simpa using this
          have eS9 : Hc S = some (.lst (acc.map V.int)) := sc _ _ (s9 _ _ eS8)
          refine ⟨.ref S, rfl, .inl ⟨rfl, _, .inl (.inl eS9)⟩, _, rfl, S, _, _, rfl, rfl, eS9, by rw [List.length_map]; exact small1000 (by omega), ?_⟩
          have kD := Kp.upd (o := .lst (acc.map V.int ++ [.int (k : Int)])) eS9
          refine ⟨fun b o h1 h2 e => ?_, ((D8.same s9).same sc).upd SD, ?_, dpAll_kp kD _ _ (lf_rowsQ pan) ((dvs8.sm s9).sm sc), ⟨acc ++ [(k : Int)], by rw [upd_same, List.map_append]; rfl, by rw [List.length_append]; show _ + 1 ≤ _; omega, ?_, fun x hx => ?_⟩, _, _, _, rfl⟩
          · have : b ≠ S := fun z => by subst z; rw [hSH] at e; cases e
            rw [upd_ne this]; exact sc _ _ (s9 _ _ (b78 b o h1 h2 e))
          · rw [upd_ne (Ne.symm nSF)]; exact sc _ _ (s9 _ _ eF8)
          · rw [List.pairwise_append]
            refine ⟨ap, List.pairwise_singleton _ _, fun x hx z hz => ?_⟩
            have := am x hx
            rw [List.mem_singleton.mp hz]; omega
          · rcases List.mem_append.mp hx with h | h
            · exact am' x h
            · rw [List.mem_singleton.mp h]; omega
        · exact ⟨b78.trans (But.of (s9.trans sc)), (D8.same s9).same sc, sc _ _ (s9 _ _ eF8), (dvs8.sm s9).sm sc, ⟨acc, sc _ _ (s9 _ _ eS8), by omega, ap, am'⟩, _, _, _, rfl⟩
      · obtain ⟨b7, D7, eF7, dvs7, ⟨acc, eS7, al, ap, am⟩, x7, x8, x9, rfl⟩ := hP
        refine ⟨.ref F, rfl, .inl ⟨rfl, _, .inl (.inl eF7)⟩, (gv_tupL (K := K) (ds := acc.map PyData.int) (gv_var rfl (.lst (.inl (.inl eS7)) (dpAll_ints' acc)))).at fun vt H8 s8 dt => ?_⟩
        have eF8 := s8 _ _ eF7
        have lv : vs.length ≤ 10 := by rw [dvs.length, List.length_map]; omega
        refine ⟨F, _, _, rfl, rfl, eF8, small1000 (by omega), ?_⟩
        have kD := Kp.upd (o := .lst (vs ++ [vt])) eF8
        refine ⟨fun b o h1 h2 e => ?_, ((D7.same s8).upd FD').less (by omega), ⟨vs ++ [vt], pan ++ [acc], upd_same, ?_, by rw [List.length_append, hpl]; rfl, fun j l h => ?_⟩, _, _, _, _, _, rfl⟩
        · have : b ≠ F := fun z => by subst z; rw [hFH] at e; cases e
          rw [upd_ne this]; exact s8 _ _ (b7 b o h1 h2 e)
        · refine dpAll_kp kD _ _ (lf_rowsQ _) ?_
          rw [List.map_append]
          exact DpAll.append (dvs7.sm s8) (.cons dt .nil)
        · rcases Nat.lt_or_ge j pan.length with hj | hj
          · rw [List.getElem?_append_left hj] at h
            exact hpan j l h
          · rw [List.getElem?_append_right hj] at h
            have hj' : j - pan.length = 0 := by
              rcases Nat.eq_zero_or_pos (j - pan.length) with h0 | h0
              · exact h0
              · rw [List.getElem?_eq_none (by show 1 ≤ _; omega)] at h; cases h
            rw [hj'] at h
            cases h
            refine ⟨ap, fun x hx => ?_⟩
            have := am x hx
            omega
    · obtain ⟨b5, D5, ⟨vs, pan, eF, dvs, hpl, hpan⟩, x5, x6, x7, x8, x9, rfl⟩ := hP
      refine gs_ret (K := K) (gv_tupL (gv_var rfl (.lst (.inl (.inl eF)) dvs))) fun v H6 s6 dv => q H6 v pan (b5.trans (But.of s6)) ((D5.same s6).less (by omega)) dv ?_ (by omega)
      exact good_of hpl (by omega) (by omega) hpan
end
end K61
/-! The last press of each button; dict comprehensions over any walk; numbers of any sign shown. -/
namespace Pr
open PySem PySem.Spec PyProof.Rows L2
def plainM : List Int → List Int
  | [] => []
  | x :: r => if x ∈ r then plainM r else x :: plainM r
theorem plainM_mem : ∀ {l : List Int} {x : Int}, x ∈ plainM l ↔ x ∈ l
  | [], x => Iff.rfl
  | y :: r, x => by
    rw [plainM]
    by_cases h : y ∈ r
    · rw [if_pos h, plainM_mem, List.mem_cons]
      exact ⟨.inr, fun z => z.elim (fun e => e ▸ h) id⟩
    · rw [if_neg h, List.mem_cons, List.mem_cons, plainM_mem]
theorem plainM_nodup : ∀ l : List Int, (plainM l).Nodup
  | [] => List.nodup_nil
  | y :: r => by
    rw [plainM]
    by_cases h : y ∈ r
    · rw [if_pos h]; exact plainM_nodup r
    · rw [if_neg h, List.nodup_cons]
      exact ⟨fun z => h (plainM_mem.mp z), plainM_nodup r⟩
theorem plainM_of_nodup : ∀ {l : List Int}, l.Nodup → plainM l = l
  | [], _ => rfl
  | y :: r, h => by
    rw [List.nodup_cons] at h
    rw [plainM, if_neg h.1, plainM_of_nodup h.2]
theorem plainM_twice (l : List Int) : plainM (plainM l) = plainM l := plainM_of_nodup (plainM_nodup l)
theorem plainM_len : ∀ l : List Int, (plainM l).length ≤ l.length
  | [] => Nat.le_refl _
  | y :: r => by
    rw [plainM]
    have := plainM_len r
    by_cases h : y ∈ r
    · rw [if_pos h, List.length_cons]; omega
    · rw [if_neg h, List.length_cons, List.length_cons]; omega
theorem plainM_drop {l : List Int} {i : Nat} {x : Int} (h : l[i]? = some x) : plainM (l.drop i) = if x ∈ l.drop (i + 1) then plainM (l.drop (i + 1)) else x :: plainM (l.drop (i + 1)) := by
  obtain ⟨hi, rfl⟩ := List.getElem?_eq_some_iff.mp h
  rw [List.drop_eq_getElem_cons hi, plainM]
/-- kvs holds the last place of each of the first i -/
def LastAt (row : List Int) (i : Nat) (kvs : List (Key × V)) : Prop :=
  ∀ x : Int, x ∈ row.take i → ∃ j : Nat, row[j]? = some x ∧ j < i ∧ (∀ m, j < m → m < i → row[m]? ≠ some x) ∧ valV kvs (Sum.inl x) = some (.int (j : Int))
theorem LastAt.nil (row : List Int) (kvs : List (Key × V)) : LastAt row 0 kvs := fun x h => by simp at h
theorem LastAt.put {row : List Int} {i : Nat} {kvs : List (Key × V)} {z : Int} (h : LastAt row i kvs) (hz : row[i]? = some z) : LastAt row (i + 1) (putK kvs (Sum.inl z) (.int (i : Int))) := by
  intro x hx
  rw [List.take_add_one, hz] at hx
  by_cases e : x = z
  · subst e
    refine ⟨i, hz, Nat.lt_succ_self _, fun m h1 h2 => by omega, ?_⟩
    rw [valV_put, if_pos rfl]
  · have hx' : x ∈ row.take i := (List.mem_append.mp hx).elim id fun q => absurd (by simpa using q) e
    obtain ⟨j, h1, h2, h3, h4⟩ := h x hx'
    refine ⟨j, h1, by omega, fun m g1 g2 g3 => ?_, ?_⟩
    · by_cases em : m = i
      · subst em
        rw [hz] at g3
        exact e (Option.some.inj g3).symm
      · exact h3 m g1 (by omega) g3
    · rw [valV_put, if_neg (fun q => e (Sum.inl.inj q)), h4]
theorem LastAt.is {row : List Int} {kvs : List (Key × V)} {i : Nat} {z : Int} (h : LastAt row row.length kvs) (hz : row[i]? = some z) :
    ∃ j : Nat, valV kvs (Sum.inl z) = some (.int (j : Int)) ∧ (j = i ↔ z ∉ row.drop (i + 1)) := by
  have hi : i < row.length := (List.getElem?_eq_some_iff.mp hz).1
  obtain ⟨j, h1, h2, h3, h4⟩ := h z (by rw [List.take_length]; exact List.mem_of_getElem? hz)
  refine ⟨j, h4, fun e hm => ?_, fun hn => ?_⟩
  · subst e
    obtain ⟨k, hk⟩ := List.getElem?_of_mem hm
    rw [List.getElem?_drop] at hk
    have hk2 := (List.getElem?_eq_some_iff.mp hk).1
    exact h3 (j + 1 + k) (by omega) hk2 hk
  · rcases Nat.lt_trichotomy j i with q | q | q
    · exact absurd hz (h3 i q hi)
    · exact q
    · refine absurd ?_ hn
      refine List.mem_of_getElem? (i := j - (i + 1)) ?_
      rw [List.getElem?_drop, show i + 1 + (j - (i + 1)) = j by omega]; exact h1
/-- a dict comprehension over a walk: Pv by the turn and the heap (the new dict at D within) -/
theorem dc_it {J : It} {n : Nat} {G : Hp → Prop} {Y : Nat → Hp → V → Hp → Prop} (w : Walk J n G Y) {g : TG} {tt : TT} {tk tv : TE} {vs : List Nat} {σ : L2.St} {H1 : Hp} {D : Addr} {Qd : Hp → Prop} (Pv : Nat → Hp → Prop)
    (h0 : Pv 0 (upd H1 D (.dK []))) (hG : ∀ i H, i ≤ n → Pv i H → G H)
    (hs : ∀ i x H H', i < n → Pv i H → Y i H x H' → g x (wipe σ vs) H' fun σ2 H2 => wipe σ2 vs = wipe σ vs ∧ tt σ2 H2 fun b H3 => if b = true then tk σ2 H3 fun y H4 => tv σ2 H4 fun z H5 =>
      ∃ kvs k, y = kV k ∧ H5 D = some (.dK kvs) ∧ kvs.length < sizeLine ∧ Pv (i + 1) (upd H5 D (.dK (putK kvs k z))) else Pv (i + 1) H3)
    (hd : ∀ H, Pv n H → Qd H) :
    ∃ W : Nat → Nat → Hp → Prop, (∃ m, W 0 m (upd H1 D (.dK []))) ∧ ∀ i m H, W i m H → (J.stop i H ∧ Qd H) ∨ (J.go i H ∧ ∃ Nx : Hp → Prop, (∀ H', Nx H' → ∃ m', m' < m ∧ W (i + 1) m' H') ∧
      ∀ x H', J.yld i H x H' → g x (wipe σ vs) H' fun σ2 H2 => wipe σ2 vs = wipe σ vs ∧ tt σ2 H2 fun b H3 => if b = true then tk σ2 H3 fun y H4 => tv σ2 H4 fun z H5 =>
        ∃ kvs k, y = kV k ∧ H5 D = some (.dK kvs) ∧ kvs.length < sizeLine ∧ Nx (upd H5 D (.dK (putK kvs k z))) else Nx H3) := by
  refine ⟨fun i m H => (i ≤ n ∧ m = n - i) ∧ Pv i H, ⟨n, ⟨Nat.zero_le _, (Nat.sub_zero n).symm⟩, h0⟩, ?_⟩
  intro i m H hW
  obtain ⟨⟨hi, rfl⟩, hP⟩ := hW
  have hGH := hG i H hi hP
  rcases Nat.lt_or_ge i n with hlt | hge
  · exact .inr ⟨w.goes i H hlt hGH, Pv (i + 1), fun H' p' => ⟨n - (i + 1), by omega, ⟨hlt, rfl⟩, p'⟩, fun x H' y => hs i x H H' hlt hP (w.yields i H x H' hlt hGH y)⟩
  · obtain rfl : i = n := by omega
    exact .inl ⟨w.stops H hGH, hd H hP⟩
theorem sqT_but3 {K : PySem.W.Frag} {H H' : Hp} {a c r p : Addr} {m : Nat} {xs : List V} (d : Dk3 H a c r m) (b : But a r H H') (h : SqT K H p xs) : SqT K H' p xs := by
  rcases h with (h | ⟨o, h⟩) | h
  · exact .inl (.inl (tup_but3 d b h))
  · have q := d.apart h (fun _ => by intro z; cases z)
    exact .inl (.inr ⟨o, b _ _ q.1 q.2 h⟩)
  · exact .inr h
theorem Shw.intA {i : Int} {k : Nat} (hk : 0 < k) (hk2 : k ≤ 100) (h : i.natAbs < 10 ^ k) : Shw 0 (k + 1) (.int i) := by
  by_cases h0 : 0 ≤ i
  · have h1 : i < 10 ^ k := by
      have e : ((i.natAbs : Nat) : Int) = i := Int.natAbs_of_nonneg h0
      have : ((i.natAbs : Nat) : Int) < ((10 ^ k : Nat) : Int) := by exact_mod_cast h
      rw [e, Int.natCast_pow] at this
      exact this
    exact (Shw.int h0 hk hk2 h1).mono (Nat.le_refl _) (Nat.le_succ _)
  · have hn : (0 : Int) ≤ -i := by omega
    have h1 : -i < 10 ^ k := by
      have e : ((i.natAbs : Nat) : Int) = -i := by omega
      have : ((i.natAbs : Nat) : Int) < ((10 ^ k : Nat) : Int) := by exact_mod_cast h
      rw [e, Int.natCast_pow] at this
      exact this
    have p := Shw.int hn hk hk2 h1
    refine ⟨?_, by simp only [PyData.hasDict], by simp [PyData.depth], ?_⟩
    · have := p.sh
      simp only [PyData.showable, decide_eq_true_eq] at this ⊢
      rw [Int.natAbs_neg] at this
      exact this
    · have := p.ln
      simp only [PyData.shown] at this ⊢
      obtain ⟨m, rfl⟩ : ∃ m : Nat, i = Int.negSucc m := by
        cases i with
        | ofNat m => exact absurd (Int.natCast_nonneg m) h0
        | negSucc m => exact ⟨m, rfl⟩
      have e1 : toString (Int.negSucc m) = "-" ++ toString (m + 1) := rfl
      have e2 : toString (-(Int.negSucc m)) = toString (m + 1) := rfl
      rw [e2, PyProof.Rows.ofString_length] at this
      rw [e1, PyProof.Rows.ofString_length, String.toList_append, List.length_append]
      have e3 : ("-" : String).toList.length = 1 := rfl
      omega
theorem shw_big {l : List Int} {m : Nat} (hl : l.length ≤ m) (h : ∀ x ∈ l, x.natAbs < 10 ^ 40) : Shw 1 (m * 43 + 3) (dInts l) := by
  refine Shw.tuple (fun d hd => ?_) (by rw [List.length_map]; exact hl)
  obtain ⟨x, hx, rfl⟩ := List.mem_map.mp hd
  exact Shw.intA (by decide) (by decide) (h x hx)
end Pr
/-! Rows for effects: what a press ahead adds, and that one may be chosen as one likes. -/
namespace Pr
open PySem PySem.Spec PyProof.Rows L2
theorem foldl_word (pan : List (List Int)) (c : Int) : ∀ (row : List Int) (w : Str), row.foldl (wordM pan c) w = if row.foldl (wordM pan c) wSame = wSame then w else row.foldl (wordM pan c) wSame
  | [], w => by
    show w = if wSame = wSame then w else wSame
    rw [if_pos rfl]
  | b :: r, w => by
    rw [List.foldl_cons, List.foldl_cons]
    unfold wordM
    by_cases h1 : b = c
    · rw [if_pos h1, if_pos h1, if_neg fun z => ?_]
      exact same_ne_on ((words_same r wOn).mp z).1.symm
    · rw [if_neg h1, if_neg h1]
      by_cases h2 : c ∈ pan.getD b.toNat []
      · rw [if_pos h2, if_pos h2, if_neg fun z => ?_]
        exact same_ne_off ((words_same r wOff).mp z).1.symm
      · rw [if_neg h2, if_neg h2]
        exact foldl_word pan c r w
theorem words_app (pan : List (List Int)) (r1 r2 : List Int) (c : Int) : wordsM pan (r1 ++ r2) c = if wordsM pan r2 c = wSame then wordsM pan r1 c else wordsM pan r2 c := by
  unfold wordsM
  rw [List.foldl_append, foldl_word]
theorem eff_app (pan : List (List Int)) (r1 r2 : List Int) : effM pan (r1 ++ r2) = joinM (effM pan r1) (effM pan r2) := by
  unfold joinM effM
  rw [List.zipWith_map, List.zipWith_self]
  exact List.map_congr_left fun c _ => words_app pan r1 r2 c
theorem eff_one {pan : List (List Int)} (g : Good pan) {b : Int} (h0 : 0 ≤ b) (h1 : b < (pan.length : Int)) : effM pan [b] = pressW pan b := by
  unfold effM pressW
  refine List.map_congr_left fun c _ => ?_
  have := wordM_join g h0 h1 c wSame
  show wordM pan (c : Int) wSame b = _
  rw [← this]
  by_cases e : onM (pan.getD b.toNat []) b c = wSame
  · rw [if_pos e, e]
  · rw [if_neg e]
theorem eff_cons {pan : List (List Int)} (g : Good pan) {b : Int} (h0 : 0 ≤ b) (h1 : b < (pan.length : Int)) (r : List Int) : effM pan (b :: r) = joinM (pressW pan b) (effM pan r) := by
  rw [show b :: r = [b] ++ r from rfl, eff_app, eff_one g h0 h1]
theorem join_self (xs : List Str) : joinM xs xs = xs := by
  unfold joinM
  rw [List.zipWith_self]
  refine (List.map_congr_left fun x _ => ?_).trans (List.map_id _)
  split <;> rfl
theorem words_iff {pan : List (List Int)} {row : List Int} {c : Int} : wordsM pan row c = wSame ↔ ¬ metB pan row c := by
  unfold wordsM
  rw [words_same]
  exact ⟨fun h => h.2, fun h => ⟨rfl, h⟩⟩
theorem met_app {pan : List (List Int)} {r1 r2 : List Int} {c : Int} : metB pan (r1 ++ r2) c ↔ metB pan r1 c ∨ metB pan r2 c := by
  unfold metB
  constructor
  · rintro (h | ⟨b, h1, h2⟩)
    · exact (List.mem_append.mp h).elim (fun q => .inl (.inl q)) fun q => .inr (.inl q)
    · exact (List.mem_append.mp h1).elim (fun q => .inl (.inr ⟨b, q, h2⟩)) fun q => .inr (.inr ⟨b, q, h2⟩)
  · rintro ((h | ⟨b, h1, h2⟩) | (h | ⟨b, h1, h2⟩))
    · exact .inl (List.mem_append_left _ h)
    · exact .inr ⟨b, List.mem_append_left _ h1, h2⟩
    · exact .inl (List.mem_append_right _ h)
    · exact .inr ⟨b, List.mem_append_right _ h1, h2⟩
theorem eff_plain {pan : List (List Int)} : ∀ row : List Int, effM pan (plainM row) = effM pan row
  | [] => rfl
  | b :: r => by
    rw [plainM]
    by_cases h : b ∈ r
    · rw [if_pos h, eff_plain r, show b :: r = [b] ++ r from rfl, eff_app]
      unfold joinM effM
      rw [List.zipWith_map, List.zipWith_self]
      refine List.map_congr_left fun c _ => ?_
      by_cases e : wordsM pan r (c : Int) = wSame
      · rw [if_pos e, e]
        refine (words_iff.mpr fun hm => words_iff.mp e ?_).symm
        rcases hm with q | ⟨d, q1, q2⟩
        · rw [List.mem_singleton.mp q]; exact .inl h
        · rw [List.mem_singleton.mp q1] at q2; exact .inr ⟨b, h, q2⟩
      · rw [if_neg e]
    · rw [if_neg h, show b :: plainM r = [b] ++ plainM r from rfl, show b :: r = [b] ++ r from rfl, eff_app, eff_app, eff_plain r]
/-! ### a part of an effect -/
def partB (e v : List Str) : Bool := (List.zipWith (fun a b => decide (a = wSame ∨ a = b)) e v).all id
theorem part_iff : ∀ {e v : List Str}, e.length = v.length → (partB e v = true ↔ ∀ (c : Nat) (x y : Str), e[c]? = some x → v[c]? = some y → x = wSame ∨ x = y)
  | [], [], _ => ⟨(fun _ c x y h => by cases h), fun _ => rfl⟩
  | a :: e, b :: v, hl => by
    have ih := part_iff (e := e) (v := v) (by simpa using hl)
    unfold partB at ih ⊢
    rw [List.zipWith_cons_cons, List.all_cons, Bool.and_eq_true, ih]
    constructor
    · rintro ⟨h1, h2⟩ c x y hx hy
      match c, hx, hy with
      | 0, hx, hy => cases hx; cases hy; exact of_decide_eq_true h1
      | c + 1, hx, hy => exact h2 c x y hx hy
    · intro h
      exact ⟨decide_eq_true (h 0 a b rfl rfl), fun c x y hx hy => h (c + 1) x y hx hy⟩
theorem eff_get {pan : List (List Int)} {row : List Int} {c : Nat} (hc : c < pan.length) : (effM pan row)[c]? = some (wordsM pan row (c : Int)) := by
  unfold effM
  rw [List.getElem?_map, List.getElem?_range hc]; rfl
theorem part_eff {pan : List (List Int)} {row : List Int} {v : List Str} (hv : v.length = pan.length) : partB (effM pan row) v = true ↔ ∀ (c : Nat) (y : Str), v[c]? = some y → wordsM pan row (c : Int) = wSame ∨ wordsM pan row (c : Int) = y := by
  rw [part_iff (by rw [effM_len, hv])]
  constructor
  · intro h c y hy
    have hc : c < pan.length := by have := (List.getElem?_eq_some_iff.mp hy).1; omega
    exact h c _ y (eff_get hc) hy
  · intro h c x y hx hy
    have hc : c < pan.length := by have := (List.getElem?_eq_some_iff.mp hy).1; omega
    rw [eff_get hc] at hx
    obtain rfl := Option.some.inj hx
    exact h c y hy
theorem eff_ext {pan : List (List Int)} {r1 r2 : List Int} (h : ∀ c : Nat, c < pan.length → wordsM pan r1 (c : Int) = wordsM pan r2 (c : Int)) : effM pan r1 = effM pan r2 := by
  unfold effM
  exact List.map_congr_left fun c hc => h c (List.mem_range.mp hc)
/-- while a part of an effect is not the whole, some press ahead adds to it what is wanted -/
theorem useful {pan : List (List Int)} {t : List Int} : ∀ (r : List Int), partB (effM pan t) (effM pan r) = true → effM pan t ≠ effM pan r → (∀ x ∈ r, 0 ≤ x ∧ x < (pan.length : Int)) →
    ∃ b ∈ r, effM pan (b :: t) ≠ effM pan t ∧ partB (effM pan (b :: t)) (effM pan r) = true := by
  intro r hp hne hr
  classical
  have hp' := (part_eff (by rw [effM_len])).mp hp
  -- the last press that adds
  have cut : ∀ s : List Int, (∀ b ∈ s, effM pan (b :: t) = effM pan t) ∨ ∃ s1 b s2, s = s1 ++ b :: s2 ∧ effM pan (b :: t) ≠ effM pan t ∧ ∀ d ∈ s2, effM pan (d :: t) = effM pan t := by
    intro s
    induction s with
    | nil => exact .inl fun b hb => by cases hb
    | cons x s ih =>
      rcases ih with h | ⟨s1, b, s2, rfl, h2, h3⟩
      · by_cases hx : effM pan (x :: t) = effM pan t
        · exact .inl fun b hb => (List.mem_cons.mp hb).elim (fun e => e ▸ hx) (h b)
        · exact .inr ⟨[], x, s, rfl, hx, h⟩
      · exact .inr ⟨x :: s1, b, s2, rfl, h2, h3⟩
  have quiet : ∀ d, effM pan (d :: t) = effM pan t → ∀ c : Nat, c < pan.length → metB pan [d] (c : Int) → metB pan t (c : Int) := by
    intro d hd c hc hm
    refine Classical.byContradiction fun hn => ?_
    have e1 := eff_get (row := d :: t) hc
    rw [hd, eff_get hc] at e1
    have e2 := Option.some.inj e1
    rw [words_iff.mpr hn] at e2
    exact (words_iff.mp e2.symm) ((met_app (r1 := [d]) (r2 := t)).mpr (.inl hm))
  have spread : ∀ (s : List Int) (c : Int), metB pan s c → ∃ d ∈ s, metB pan [d] c := by
    intro s c hm
    rcases hm with h | ⟨b, h1, h2⟩
    · exact ⟨c, h, .inl (List.mem_singleton.mpr rfl)⟩
    · exact ⟨b, h1, .inr ⟨b, List.mem_singleton.mpr rfl, h2⟩⟩
  rcases cut r with h | ⟨r1, b, r2, rfl, h2, h3⟩
  · refine absurd (eff_ext fun c hc => ?_) hne
    rcases hp' c _ (eff_get hc) with q | q
    · rw [q]
      refine (words_iff.mpr fun hm => ?_).symm
      obtain ⟨d, hd, hm'⟩ := spread r _ hm
      exact words_iff.mp q (quiet d (h d hd) c hc hm')
    · exact q
  · refine ⟨b, List.mem_append_right _ List.mem_cons_self, h2, (part_eff (by rw [effM_len])).mpr fun c y hy => ?_⟩
    have hc : c < pan.length := by have := (List.getElem?_eq_some_iff.mp hy).1; rw [effM_len] at this; exact this
    rw [eff_get hc] at hy
    obtain rfl := Option.some.inj hy
    rw [show b :: t = [b] ++ t from rfl, words_app]
    by_cases e : wordsM pan t (c : Int) = wSame
    · rw [if_pos e]
      by_cases e2 : wordsM pan [b] (c : Int) = wSame
      · exact .inl e2
      · refine .inr ?_
        have n2 : wordsM pan r2 (c : Int) = wSame := words_iff.mpr fun hm => by
          obtain ⟨d, hd, hm'⟩ := spread r2 _ hm
          exact words_iff.mp e (quiet d (h3 d hd) c hc hm')
        rw [words_app, show b :: r2 = [b] ++ r2 from rfl, words_app, if_pos n2, if_neg e2]
    · rw [if_neg e]
      exact .inr ((hp' c _ (eff_get hc)).resolve_left e)
theorem cp_back {α : Type} {p q : α → Bool} : ∀ {l : List α}, (∀ x ∈ l, p x = true → q x = true) → l.countP p = l.countP q → ∀ x ∈ l, q x = true → p x = true
  | [], _, _, x, hx, _ => by cases hx
  | a :: l, h, he, x, hx, hq => by
    have hm := List.countP_mono_left (l := l) (p := p) (q := q) fun y hy => h y (List.mem_cons_of_mem _ hy)
    rw [List.countP_cons, List.countP_cons] at he
    have ha := h a List.mem_cons_self
    by_cases pa : p a = true
    · rw [if_pos pa, if_pos (ha pa)] at he
      rcases List.mem_cons.mp hx with e | e
      · rw [e]; exact pa
      · exact cp_back (fun y hy => h y (List.mem_cons_of_mem _ hy)) (by omega) x e hq
    · rw [if_neg pa] at he
      by_cases qa : q a = true
      · rw [if_pos qa] at he; omega
      · rw [if_neg qa] at he
        rcases List.mem_cons.mp hx with e | e
        · rw [e] at hq; exact absurd hq qa
        · exact cp_back (fun y hy => h y (List.mem_cons_of_mem _ hy)) (by omega) x e hq
/-- a press that adds makes one "same" fewer -/
theorem count_less {pan : List (List Int)} {b : Int} {t : List Int} (h : effM pan (b :: t) ≠ effM pan t) : (effM pan (b :: t)).count wSame < (effM pan t).count wSame := by
  unfold effM
  rw [List.count_eq_countP, List.count_eq_countP, List.countP_map, List.countP_map]
  have mono : ∀ c ∈ List.range pan.length, ((fun x => x == wSame) ∘ fun c : Nat => wordsM pan (b :: t) (c : Int)) c = true → ((fun x => x == wSame) ∘ fun c : Nat => wordsM pan t (c : Int)) c = true := by
    intro c _ hc
    have h1 : wordsM pan (b :: t) (c : Int) = wSame := by simpa using hc
    have h2 : wordsM pan t (c : Int) = wSame := words_iff.mpr fun hm => words_iff.mp h1 ((met_app (r1 := [b]) (r2 := t)).mpr (.inr hm))
    simpa using h2
  refine Nat.lt_of_le_of_ne (List.countP_mono_left mono) fun e => h (eff_ext fun c hc => ?_)
  rw [show b :: t = [b] ++ t from rfl, words_app]
  by_cases e2 : wordsM pan t (c : Int) = wSame
  · rw [if_pos e2]
    have back := cp_back mono e
    have := back c (List.mem_range.mpr hc) (by simpa using e2)
    have h1 : wordsM pan (b :: t) (c : Int) = wSame := by simpa using this
    rw [show b :: t = [b] ++ t from rfl, words_app, if_pos e2] at h1
    rw [h1, e2]
  · rw [if_neg e2]
end Pr
namespace Pr
open PySem PySem.Spec PyProof.Rows L2
theorem eqvAll_strs : ∀ xs ys : List Str, PyData.eqvAll (xs.map PyData.str) (ys.map PyData.str) = decide (xs = ys)
  | [], [] => by simp [PyData.eqvAll]
  | [], y :: ys => by simp [PyData.eqvAll]
  | x :: xs, [] => by simp [PyData.eqvAll]
  | x :: xs, y :: ys => by
    rw [List.map_cons, List.map_cons]
    simp only [PyData.eqvAll, PyData.eqv]
    rw [eqvAll_strs xs ys, Bool.eq_iff_iff, Bool.and_eq_true, beq_iff_eq, decide_eq_true_eq, decide_eq_true_eq, List.cons.injEq]
theorem eqv_strs (xs ys : List Str) : PyData.eqv (dStrs xs) (dStrs ys) = decide (xs = ys) := by
  unfold dStrs
  simp only [PyData.eqv]
  exact eqvAll_strs xs ys
theorem word_ok {x : Str} (h : x = wSame ∨ x = wOn ∨ x = wOff) : PyData.strOk x = true := by
  rcases h with rfl | rfl | rfl <;> exact ok_of _
theorem lay_words : ∀ {xs : List Str}, (∀ x ∈ xs, x = wSame ∨ x = wOn ∨ x = wOff) → PyData.canLayAll0 (xs.map PyData.str) = true
  | [], _ => by simp [PyData.canLayAll0]
  | x :: r, h => by
    rw [List.map_cons]
    simp only [PyData.canLayAll0, PyData.canLay0]
    rw [word_ok (h x List.mem_cons_self), lay_words fun y hy => h y (List.mem_cons_of_mem _ hy)]; rfl
theorem depth_strs : ∀ xs : List Str, PyData.depthAll (xs.map PyData.str) = 0
  | [] => by simp [PyData.depthAll]
  | x :: r => by
    rw [List.map_cons]
    simp only [PyData.depthAll, PyData.depth]
    rw [depth_strs r]; rfl
theorem shp_words {xs : List Str} (h : ∀ x ∈ xs, x = wSame ∨ x = wOn ∨ x = wOff) : SeqAt.shaped (dStrs xs) = true := by
  refine shp_of ?_ ?_
  · unfold dStrs; simp only [PyData.canLay0]; exact lay_words h
  · unfold dStrs; simp only [PyData.depth]; rw [depth_strs]; decide
theorem eff_again {pan : List (List Int)} {b : Int} {t : List Int} (h : b ∈ t) : effM pan (b :: t) = effM pan t := by
  rw [← eff_plain (b :: t), plainM, if_pos h, eff_plain]
theorem part_nil {pan : List (List Int)} {v : List Str} (hv : v.length = pan.length) : partB (effM pan []) v = true := (part_eff hv).mpr fun c y _ => .inl rfl
theorem zip_part_take {xs ys : List Str} {i : Nat} {x y : Str} (hx : xs[i]? = some x) (hy : ys[i]? = some y) : (List.zipWith (fun a b => decide (a = wSame ∨ a = b)) xs ys)[i]? = some (decide (x = wSame ∨ x = y)) := by
  rw [List.getElem?_zipWith, hx, hy]
end Pr
/-! repr of bools, rows, and data of any kind. -/
namespace Pr
open PySem PySem.Spec PyProof.Rows L2
def rReprB (K : PySem.W.Frag) : List V → Hp → VK → Prop := fun xs H Q => rReprN K xs H Q ∨ ∃ b : Bool, xs = [.bl b] ∧ Q (.str (PyData.shown (.bool b))) H
theorem shq_bool (b : Bool) : Shq 60 sizeLine (.bool b) := by cases b <;> exact ⟨by simp only [PyData.showable], by simp [PyData.depth], by simp only [PyData.shown]; decide⟩
theorem cr_reprB {X : Cx} {k : Nat} (gd : X.A.guards = some []) (hr : Room k X.A) : CallR X (.builtin "repr") (rReprB X.K) := by
  intro pins s σ H xs us Q I rv h
  rcases h with h | ⟨b, rfl, q⟩
  · exact cr_reprN gd hr pins s σ H xs us Q I rv h
  · exact call_reprQ gd hr pins s σ H _ us Q I rv ⟨fun _ => False, .bl b, .bool b, rfl, .bl b, shq_bool b, q⟩
theorem gv_reprB1 {K : PySem.W.Frag} {σ : L2.St} {H : Hp} {t : TE} {b : Bool} (h : Gv K t σ H (.bool b)) : Gv K (tCB (rReprB K) (tCons t tNil)) σ H (.str (PyData.shown (.bool b))) :=
  gv_cb (gva_cons h gva_nil) fun vs H1 Q s hd' q => by
    obtain ⟨v, rfl, hv⟩ := dpAll1 hd'
    cases hv
    exact .inr ⟨b, rfl, q _ _ (Same.refl _) (.str _)⟩
theorem gv_reprB {K : PySem.W.Frag} {σ : L2.St} {H : Hp} {t : TE} {d : PyData} (h : Gv K t σ H d) (hd : RepOk d) : Gv K (tCB (rReprB K) (tCons t tNil)) σ H (.str d.shown) := fun H1 s Q q =>
  gva_cons h gva_nil H1 s _ fun vs H2 s2 dv => .inl (by
    have := gv_reprN (K := K) (t := fun _ H Q => Q (vs.headD .non) H) (σ := σ) (H := H2) (d := d) (fun H3 s3 Q' q' => q' _ H3 (Same.refl _) (by obtain ⟨v, rfl, hv⟩ := dpAll1 dv; exact hv.sm s3)) hd H2 (Same.refl _) Q (fun v H' s' d' => q v H' (s2.trans s') d')
    obtain ⟨v, rfl, hv⟩ := dpAll1 dv
    exact this)

def rReprA (K : PySem.W.Frag) : List V → Hp → VK → Prop := fun xs H Q => rReprB K xs H Q ∨ rReprQ K xs H Q
theorem cr_reprA {X : Cx} {k : Nat} (gd : X.A.guards = some []) (hr : Room k X.A) : CallR X (.builtin "repr") (rReprA X.K) := by
  intro pins s σ H xs us Q I rv h
  rcases h with h | h
  · exact cr_reprB gd hr pins s σ H xs us Q I rv h
  · exact call_reprQ gd hr pins s σ H xs us Q I rv h
section
variable {K : PySem.W.Frag} {σ : L2.St} {H : Hp} {t : TE}
theorem gv_reprA1 {b : Bool} (h : Gv K t σ H (.bool b)) : Gv K (tCB (rReprA K) (tCons t tNil)) σ H (.str (PyData.shown (.bool b))) := fun H1 s Q q => h H1 s _ fun v H2 s2 dv => by
  cases dv
  exact .inl (.inr ⟨b, rfl, q _ _ s2 (.str _)⟩)
theorem gv_reprA {d : PyData} (h : Gv K t σ H d) (hd : RepOk d) : Gv K (tCB (rReprA K) (tCons t tNil)) σ H (.str d.shown) := fun H1 s Q q => by
  have := gv_reprB h hd H1 s Q q
  exact gva_cons h gva_nil H1 s _ fun vs H2 s2 dv => .inl (by
    have := gv_reprB (K := K) (t := fun _ H Q => Q (vs.headD .non) H) (σ := σ) (H := H2) (d := d) (fun H3 s3 Q' q' => q' _ H3 (Same.refl _) (by obtain ⟨v, rfl, hv⟩ := dpAll1 dv; exact hv.sm s3)) hd H2 (Same.refl _) Q (fun v H' s' d' => q v H' (s2.trans s') d')
    obtain ⟨v, rfl, hv⟩ := dpAll1 dv
    exact this)
theorem gv_reprAq {i : Nat} {v : V} {N : Addr → Prop} {d : PyData} (hi : σ[i]? = some (some v)) (h : Dq K N H v d) (hs : Shq 60 sizeLine d) : Gv K (tCB (rReprA K) (tCons (tVar i) tNil)) σ H (.str d.shown) := fun H1 s Q q =>
  ⟨v, hi, .inr ⟨N, v, d, rfl, Dq.same s _ _ h, hs, q _ H1 (Same.refl _) (.str _)⟩⟩
end
theorem rep_eff {pan : List (List Int)} (g : Good pan) (row : List Int) : RepOk (dStrs (effM pan row)) := .inr ⟨(shw_eff g row).mono (by decide) (by decide), _, .inl rfl⟩
end Pr
/-! Texts of panels and rows. -/
namespace Pr
open PySem PySem.Spec PyProof.Rows L2
def numT (x : Int) : Str := (toString x : String)
def listT (b : Int) (l : List Int) : Str := numT b ++ (">" : Str) ++ Txt.join ("," : Str) (l.map numT)
def panT (pan : List (List Int)) : Str := Txt.join (" " : Str) (pan.zipIdx.map fun x => listT (x.2 : Nat) x.1)
def rowW (row : List Int) : List Str := row.map numT ++ List.replicate (if row.length = 0 then 1 else 0) ("none" : Str)
def rowT (row : List Int) : Str := Txt.join (" " : Str) (rowW row)
def Dg (x : Int) : Prop := 0 ≤ x ∧ x < 10
theorem rowT_nil : rowT [] = ("none" : Str) := by unfold rowT rowW; rw [TL.join_eq]; rfl
theorem rowT_cons {row : List Int} (h : row ≠ []) : rowT row = Txt.join (" " : Str) (row.map numT) := by
  unfold rowT rowW
  rw [if_neg (fun e => h (List.length_eq_zero_iff.mp e)), List.replicate_zero, List.append_nil]
/-! ### how long, which signs -/
structure Sm (n : Nat) (x : Str) : Prop where
  ln : x.length ≤ n
  cs : ∀ c ∈ TL.tl x, c < 128
theorem Sm.app {n m : Nat} {x y : Str} (h : Sm n x) (g : Sm m y) : Sm (n + m) (x ++ y) := by
  refine ⟨by rw [Str.length_append]; have := h.ln; have := g.ln; omega, fun c hc => ?_⟩
  rw [TL.tl_append] at hc
  rcases List.mem_append.mp hc with h' | h'
  · exact h.cs c h'
  · exact g.cs c h'
theorem Sm.mono {n m : Nat} {x : Str} (h : Sm n x) (g : n ≤ m) : Sm m x := ⟨Nat.le_trans h.ln g, h.cs⟩
theorem sm_num {x : Int} (h : Dg x) : Sm 1 (numT x) := by
  have : ∀ n < 10, (numT ((n : Nat) : Int)).length ≤ 1 ∧ ∀ c ∈ TL.tl (numT ((n : Nat) : Int)), c < 128 := by decide +kernel
  obtain ⟨n, rfl⟩ : ∃ n : Nat, x = (n : Int) := ⟨x.toNat, (Int.toNat_of_nonneg h.1).symm⟩
  have := this n (by have := h.2; omega)
  exact ⟨this.1, this.2⟩
theorem num_cs {x : Int} (h : Dg x) : ∀ c ∈ TL.tl (numT x), 48 ≤ c ∧ c < 58 := by
  have : ∀ n < 10, ∀ c ∈ TL.tl (numT ((n : Nat) : Int)), 48 ≤ c ∧ c < 58 := by decide +kernel
  obtain ⟨n, rfl⟩ : ∃ n : Nat, x = (n : Int) := ⟨x.toNat, (Int.toNat_of_nonneg h.1).symm⟩
  exact this n (by have := h.2; omega)
theorem num_inj {x y : Int} (h : Dg x) (g : Dg y) (e : numT x = numT y) : x = y := by
  have : ∀ n < 10, ∀ m < 10, numT ((n : Nat) : Int) = numT ((m : Nat) : Int) → n = m := by decide +kernel
  obtain ⟨n, rfl⟩ : ∃ n : Nat, x = (n : Int) := ⟨x.toNat, (Int.toNat_of_nonneg h.1).symm⟩
  obtain ⟨m, rfl⟩ : ∃ n : Nat, y = (n : Int) := ⟨y.toNat, (Int.toNat_of_nonneg g.1).symm⟩
  rw [this n (by have := h.2; omega) m (by have := g.2; omega) e]
theorem num_none {x : Int} (h : Dg x) : numT x ≠ ("none" : Str) := by
  have : ∀ n < 10, numT ((n : Nat) : Int) ≠ ("none" : Str) := by decide +kernel
  obtain ⟨n, rfl⟩ : ∃ n : Nat, x = (n : Int) := ⟨x.toNat, (Int.toNat_of_nonneg h.1).symm⟩
  exact this n (by have := h.2; omega)
theorem sm_join {y : Str} (hy : Sm 1 y) {k : Nat} : ∀ {parts : List Str}, (∀ p ∈ parts, Sm k p) → Sm (parts.length * (k + 1)) (Txt.join y parts)
  | [], _ => by rw [TL.join_eq]; exact ⟨Nat.zero_le _, fun c hc => by cases hc⟩
  | [p], h => by rw [TL.join_eq]; exact (h p List.mem_cons_self).mono (by show k ≤ 1 * (k + 1); omega)
  | p :: q :: r, h => by
    have ih := sm_join hy (parts := q :: r) fun z hz => h z (List.mem_cons_of_mem _ hz)
    rw [TL.join_eq] at ih ⊢
    refine (((h p List.mem_cons_self).app hy).app ih).mono ?_
    show k + 1 + (r.length + 1) * (k + 1) ≤ (r.length + 1 + 1) * (k + 1)
    rw [Nat.succ_mul (r.length + 1) (k + 1)]; omega
theorem sm_list {b : Int} {l : List Int} (hb : Dg b) (hl : ∀ x ∈ l, Dg x) : Sm (l.length * 2 + 2) (listT b l) := by
  unfold listT
  have h1 : Sm 1 (">" : Str) := ⟨by decide +kernel, by decide +kernel⟩
  have h2 : Sm 1 ("," : Str) := ⟨by decide +kernel, by decide +kernel⟩
  refine (((sm_num hb).app h1).app (sm_join h2 (k := 1) fun p hp => ?_)).mono (by rw [List.length_map]; omega)
  obtain ⟨x, hx, rfl⟩ := List.mem_map.mp hp
  exact sm_num (hl x hx)
theorem sm_row {row : List Int} (h : ∀ x ∈ row, Dg x) : Sm ((row.length + 1) * 5) (rowT row) := by
  unfold rowT
  refine (sm_join ⟨by decide +kernel, by decide +kernel⟩ (k := 4) fun p hp => ?_).mono ?_
  · unfold rowW at hp
    rcases List.mem_append.mp hp with hp | hp
    · obtain ⟨x, hx, rfl⟩ := List.mem_map.mp hp
      exact (sm_num (h x hx)).mono (by decide)
    · rw [List.eq_of_mem_replicate hp]
      exact ⟨by decide +kernel, by decide +kernel⟩
  · unfold rowW
    rw [List.length_append, List.length_map, List.length_replicate]
    refine Nat.mul_le_mul_right _ ?_
    split <;> omega
structure OkT (pan : List (List Int)) : Prop where
  few : pan.length ≤ 10
  sh : ∀ l ∈ pan, l.length ≤ 60
  dg : ∀ l ∈ pan, ∀ x ∈ l, Dg x
theorem Good.okT {pan : List (List Int)} (g : Good pan) : OkT pan := by
  have few := g.few
  refine ⟨few, fun l hl => ?_, fun l hl x hx => ?_⟩
  · have := pw_length (n := 10) (lo := 0) (g.up l hl) fun x hx => by have := g.rng l hl x hx; omega
    omega
  · have := g.rng l hl x hx
    exact ⟨this.1, by omega⟩
theorem zip_ix {pan : List (List Int)} {x : List Int × Nat} (h : x ∈ pan.zipIdx) : x.2 < pan.length ∧ x.1 ∈ pan := by
  obtain ⟨h1, h2, h3⟩ := List.mem_zipIdx h
  exact ⟨by omega, by rw [h3]; exact List.getElem_mem _⟩
theorem sm_pan {pan : List (List Int)} (g : OkT pan) : Sm 1230 (panT pan) := by
  unfold panT
  have few := g.few
  refine (sm_join ⟨by decide +kernel, by decide +kernel⟩ (k := 122) fun p hp => ?_).mono ?_
  · obtain ⟨x, hx, rfl⟩ := List.mem_map.mp hp
    have hz := zip_ix hx
    refine (sm_list ⟨by omega, by omega⟩ (g.dg _ hz.2)).mono ?_
    have := g.sh _ hz.2
    omega
  · rw [List.length_map, List.length_zipIdx]
    show _ * 123 ≤ _
    omega
theorem tl_mem {x : Str} {c : Nat} (h : c ∈ x.cps.toList) : c ∈ TL.tl x := h
theorem shq_str {n : Nat} {x : Str} (h : Sm n x) (hn : n ≤ 5000) : Shq 0 (10 * n + 2) (.str x) := by
  refine ⟨by simp only [PyData.showable], by simp [PyData.depth], ?_⟩
  simp only [PyData.shown]
  refine Nat.le_trans (StrLaws.reprText_len x fun c hc => Nat.lt_trans (h.cs c (tl_mem hc)) (by decide)) ?_
  have := h.ln
  omega
theorem shw_str {n : Nat} {x : Str} (h : Sm n x) (hn : n ≤ 5000) : Shw 0 (10 * n + 2) (.str x) := ⟨(shq_str h hn).sh, by simp only [PyData.hasDict], (shq_str h hn).dp, (shq_str h hn).ln⟩
/-! ### different texts -/
theorem join_inj {y : Str} {s : Nat} {S : List Nat} (ey : TL.tl y = s :: S) (hk : y.cps.all (· < 256) = true) {p q : List Str} (np : p ≠ []) (nq : q ≠ []) (hp : ∀ x ∈ p, s ∉ TL.tl x) (hq : ∀ x ∈ q, s ∉ TL.tl x) (e : Txt.join y p = Txt.join y q) : p = q := by
  have h1 := TL.split_join ey hk np hp
  have h2 := TL.split_join ey hk nq hq
  rw [← h1, ← h2, e]
theorem nums_inj : ∀ {l m : List Int}, (∀ x ∈ l, Dg x) → (∀ x ∈ m, Dg x) → l.map numT = m.map numT → l = m
  | [], [], _, _, _ => rfl
  | [], _ :: _, _, _, e => by cases e
  | _ :: _, [], _, _, e => by cases e
  | x :: l, y :: m, h, g, e => by
    rw [List.map_cons, List.map_cons] at e
    obtain ⟨e1, e2⟩ := List.cons.inj e
    rw [num_inj (h x List.mem_cons_self) (g y List.mem_cons_self) e1, nums_inj (fun z hz => h z (List.mem_cons_of_mem _ hz)) (fun z hz => g z (List.mem_cons_of_mem _ hz)) e2]
theorem rowW_ne (row : List Int) : rowW row ≠ [] := by
  unfold rowW
  cases row with
  | nil => simp
  | cons x r => simp
theorem rowW_sp {row : List Int} (h : ∀ x ∈ row, Dg x) : ∀ w ∈ rowW row, 32 ∉ TL.tl w := by
  intro w hw
  unfold rowW at hw
  rcases List.mem_append.mp hw with hp | hp
  · obtain ⟨x, hx, rfl⟩ := List.mem_map.mp hp
    intro hc
    have := num_cs (h x hx) _ hc
    omega
  · rw [List.eq_of_mem_replicate hp]; decide +kernel
theorem rowW_inj {l m : List Int} (h : ∀ x ∈ l, Dg x) (g : ∀ x ∈ m, Dg x) (e : rowW l = rowW m) : l = m := by
  cases l with
  | nil =>
    cases m with
    | nil => rfl
    | cons y m =>
      exfalso
      have : ("none" : Str) = numT y := (List.cons.inj (show ("none" : Str) :: [] = numT y :: _ from e)).1
      exact num_none (g y List.mem_cons_self) this.symm
  | cons x l =>
    cases m with
    | nil =>
      exfalso
      have : numT x = ("none" : Str) := (List.cons.inj (show numT x :: _ = ("none" : Str) :: [] from e)).1
      exact num_none (h x List.mem_cons_self) this
    | cons y m =>
      unfold rowW at e
      rw [if_neg (by simp), if_neg (by simp), List.replicate_zero, List.append_nil, List.append_nil] at e
      exact nums_inj h g e
theorem rowT_inj {l m : List Int} (h : ∀ x ∈ l, Dg x) (g : ∀ x ∈ m, Dg x) : rowT l = rowT m ↔ l = m := by
  refine ⟨fun e => ?_, fun e => by rw [e]⟩
  exact rowW_inj h g (join_inj (y := (" " : Str)) (s := 32) (S := []) (by decide +kernel) (by decide +kernel) (rowW_ne l) (rowW_ne m) (rowW_sp h) (rowW_sp g) e)
theorem join_com {l : List Int} (h : ∀ x ∈ l, Dg x) : ∀ c ∈ TL.tl (Txt.join ("," : Str) (l.map numT)), (48 ≤ c ∧ c < 58) ∨ c = 44 := by
  induction l with
  | nil => rw [TL.join_eq]; intro c hc; cases hc
  | cons x l ih =>
    cases l with
    | nil => rw [TL.join_eq]; intro c hc; exact .inl (num_cs (h x List.mem_cons_self) c hc)
    | cons y l =>
      have ih := ih fun z hz => h z (List.mem_cons_of_mem _ hz)
      rw [TL.join_eq] at ih ⊢
      intro c hc
      have e : Str.join ("," : Str) ((x :: y :: l).map numT) = numT x ++ ("," : Str) ++ Str.join ("," : Str) ((y :: l).map numT) := rfl
      rw [e, TL.tl_append, TL.tl_append] at hc
      rcases List.mem_append.mp hc with hc | hc
      · rcases List.mem_append.mp hc with hc | hc
        · exact .inl (num_cs (h x List.mem_cons_self) c hc)
        · have : TL.tl ("," : Str) = [44] := by decide +kernel
          rw [this] at hc
          exact .inr (List.mem_singleton.mp hc)
      · exact ih c hc
theorem tl_inj {x y : Str} (h : TL.tl x = TL.tl y) : x = y := by
  cases x; cases y
  exact congrArg Str.mk (Array.toList_inj.mp h)
theorem num_tl {x : Int} (h : Dg x) : ∃ c, TL.tl (numT x) = [c] := by
  have : ∀ n < 10, (TL.tl (numT ((n : Nat) : Int))).length = 1 := by decide +kernel
  obtain ⟨n, rfl⟩ : ∃ n : Nat, x = (n : Int) := ⟨x.toNat, (Int.toNat_of_nonneg h.1).symm⟩
  exact List.length_eq_one_iff.mp (this n (by have := h.2; omega))
theorem joinC_inj {l m : List Int} (h : ∀ x ∈ l, Dg x) (g : ∀ x ∈ m, Dg x) (e : Txt.join ("," : Str) (l.map numT) = Txt.join ("," : Str) (m.map numT)) : l = m := by
  have sp : ∀ {l : List Int}, (∀ x ∈ l, Dg x) → ∀ w ∈ l.map numT, 44 ∉ TL.tl w := fun {l} h w hw hc => by
    obtain ⟨x, hx, rfl⟩ := List.mem_map.mp hw
    have := num_cs (h x hx) _ hc
    omega
  have em : ∀ {y : Int} {m : List Int}, Dg y → TL.tl (Txt.join ("," : Str) ((y :: m).map numT)) ≠ [] := fun {y m} hy hn => by
    obtain ⟨c, hc⟩ := num_tl hy
    rw [TL.join_eq] at hn
    cases m with
    | nil =>
      rw [show TL.tl (Str.join ("," : Str) (([y] : List Int).map numT)) = TL.tl (numT y) from rfl, hc] at hn; cases hn
    | cons z m =>
      rw [show Str.join ("," : Str) ((y :: z :: m).map numT) = numT y ++ ("," : Str) ++ Str.join ("," : Str) ((z :: m).map numT) from rfl, TL.tl_append, TL.tl_append, hc] at hn
      cases hn
  cases l with
  | nil =>
    cases m with
    | nil => rfl
    | cons y m => exfalso; refine em (g y List.mem_cons_self) (m := m) ?_; rw [← e, TL.join_eq]; rfl
  | cons x l =>
    cases m with
    | nil => exfalso; refine em (h x List.mem_cons_self) (m := l) ?_; rw [e, TL.join_eq]; rfl
    | cons y m => exact nums_inj h g (join_inj (y := ("," : Str)) (s := 44) (S := []) (by decide +kernel) (by decide +kernel) (by simp) (by simp) (sp h) (sp g) e)
theorem listT_inj {b : Int} {l m : List Int} (h : ∀ x ∈ l, Dg x) (g : ∀ x ∈ m, Dg x) (e : listT b l = listT b m) : l = m := by
  unfold listT at e
  have e2 := congrArg TL.tl e
  rw [TL.tl_append, TL.tl_append (numT b ++ (">" : Str))] at e2
  exact joinC_inj h g (tl_inj (List.append_cancel_left e2))
theorem listT_sp {b : Int} {l : List Int} (hb : Dg b) (h : ∀ x ∈ l, Dg x) : 32 ∉ TL.tl (listT b l) := by
  unfold listT
  rw [TL.tl_append, TL.tl_append]
  intro hc
  rcases List.mem_append.mp hc with hc | hc
  · rcases List.mem_append.mp hc with hc | hc
    · have := num_cs hb _ hc; omega
    · have : TL.tl (">" : Str) = [62] := by decide +kernel
      rw [this] at hc
      cases List.mem_singleton.mp hc
  · rcases join_com h _ hc with h' | h' <;> omega
theorem listsT_inj : ∀ {p q : List (List Int)} {k : Nat}, (∀ l ∈ p, ∀ x ∈ l, Dg x) → (∀ l ∈ q, ∀ x ∈ l, Dg x) → ((p.zipIdx k).map fun x => listT (x.2 : Nat) x.1) = ((q.zipIdx k).map fun x => listT (x.2 : Nat) x.1) → p = q
  | [], [], _, _, _, _ => rfl
  | [], _ :: _, _, _, _, e => by cases e
  | _ :: _, [], _, _, _, e => by cases e
  | x :: l, y :: m, k, h, g, e => by
    rw [List.zipIdx_cons, List.zipIdx_cons, List.map_cons, List.map_cons] at e
    obtain ⟨e1, e2⟩ := List.cons.inj e
    rw [listT_inj (h x List.mem_cons_self) (g y List.mem_cons_self) e1, listsT_inj (fun z hz => h z (List.mem_cons_of_mem _ hz)) (fun z hz => g z (List.mem_cons_of_mem _ hz)) e2]
theorem panT_inj {p q : List (List Int)} (hp : OkT p) (hq : OkT q) (np : p ≠ []) (nq : q ≠ []) : panT p = panT q ↔ p = q := by
  refine ⟨fun e => ?_, fun e => by rw [e]⟩
  have sp : ∀ {p : List (List Int)}, OkT p → ∀ w ∈ (p.zipIdx.map fun x => listT (x.2 : Nat) x.1), 32 ∉ TL.tl w := fun {p} h w hw => by
    obtain ⟨x, hx, rfl⟩ := List.mem_map.mp hw
    have hz := zip_ix hx
    have := h.few
    exact listT_sp ⟨by omega, by omega⟩ (h.dg _ hz.2)
  have ne : ∀ {p : List (List Int)}, p ≠ [] → (p.zipIdx.map fun x => listT (x.2 : Nat) x.1) ≠ [] := fun {p} h e => h (by
    have := congrArg List.length e
    rw [List.length_map, List.length_zipIdx] at this
    exact List.length_eq_zero_iff.mp this)
  exact listsT_inj hp.dg hq.dg (join_inj (y := (" " : Str)) (s := 32) (S := []) (by decide +kernel) (by decide +kernel) (ne np) (ne nq) (sp hp) (sp hq) e)
/-! ### the terms -/
def rStrI : List V → Hp → VK → Prop := fun xs H Q => ∃ i, xs = [.int i] ∧ i.natAbs.log2 < 1920 ∧ Q (.str (toString i)) H
section
variable {K : PySem.W.Frag} {σ : L2.St} {H : Hp} {t ta tb te : TE}
theorem gv_reprS {n : Nat} {x : Str} (h : Gv K t σ H (.str x)) (hs : Sm n x) (hn : n ≤ 5000) : Gv K (tCB (rReprA K) (tCons t tNil)) σ H (.str (PyData.shown (.str x))) := fun H1 s Q q => h H1 s _ fun v H2 s2 dv => by
  cases dv
  refine .inr ⟨fun _ => False, _, .str x, rfl, .str x, (shq_str hs hn).mono (by decide) ?_, q _ _ s2 (.str _)⟩
  exact Nat.le_of_lt (small5 (by omega))
theorem gv_numT {x : Int} (h : Gv K te σ H (.int x)) (hx : Dg x) : Gv K (tCB rStrI (tCons te tNil)) σ H (.str (numT x)) := gv_cb (gva_cons h gva_nil) fun vs H1 Q s hd' q => by
  obtain ⟨v, rfl, hv⟩ := dpAll1 hd'
  cases hv
  refine ⟨_, rfl, ?_, q _ _ (Same.refl _) (.str _)⟩
  have : ∀ n < 10, (((n : Nat) : Int)).natAbs.log2 < 1920 := by decide +kernel
  obtain ⟨n, rfl⟩ : ∃ n : Nat, x = (n : Int) := ⟨x.toNat, (Int.toNat_of_nonneg hx.1).symm⟩
  exact this n (by have := hx.2; omega)
theorem gv_addS {x y : Str} (ha : Gv K ta σ H (.str x)) (hb : Gv K tb σ H (.str y)) (hl : x.length + y.length ≤ 100000) {r : R2} (hr : r = fun x y H Q => ∃ i j, x = .str i ∧ y = .str j ∧ i.length + j.length ≤ sizeLine ∧ Q (.str (i ++ j)) H) : Gv K (tOp r ta tb) σ H (.str (x ++ y)) := by
  subst hr
  refine gv_op2 ha hb fun u v H1 Q s hx hy q => ?_
  cases hx; cases hy
  exact ⟨_, _, rfl, rfl, Nat.le_of_lt (small5 hl), q _ _ (Same.refl _) (.str _)⟩
theorem dpAll_strJ : ∀ {vs : List V} {l : List Str}, DpAll K H vs (l.map PyData.str) → vs = l.map V.str := fun {vs l} h => dpAll_strsV h
theorem gv_joinT {td tl : TE} {a : Str} {ys : List Str} {n : Nat} (h1 : Gv K td σ H (.str a)) (h2 : Gv K tl σ H (.list (ys.map PyData.str))) (hy : ∀ y ∈ ys, y.length ≤ 200) (hl : ys.length ≤ 100) (ha : a.length ≤ 1) {r : V → List V → Hp → VK → Prop}
    (hr : r = fun x xs H Q => ∃ a p, ∃ ys : List Str, x = .str a ∧ xs = [.ref p] ∧ (SqL K H p (ys.map V.str) ∨ SqT K H p (ys.map V.str)) ∧ (ys.map (·.length)).sum + ys.length * a.length ≤ 16777216 ∧ Q (.str (Txt.join a ys)) H) :
    Gv K (tM1 r td tl) σ H (.str (Txt.join a ys)) := fun H1 s Q q => h1 H1 s _ fun v H2 s2 d2 => by
  subst hr
  cases d2
  refine ⟨⟨_, rfl⟩, h2 H2 (s.trans s2) _ fun w H3 s3 d3 => ?_⟩
  obtain ⟨p, xs, rfl, hp, hr⟩ := d3.lstI
  rw [dpAll_strJ hr] at hp
  refine ⟨_, p, ys, rfl, rfl, .inl hp, ?_, q _ H3 (s2.trans s3) (.str _)⟩
  have h3 : ∀ {ys : List Str}, (∀ y ∈ ys, y.length ≤ 200) → (ys.map (·.length)).sum ≤ ys.length * 200 := fun {ys} => by
    induction ys with
    | nil => intro _; exact Nat.le_refl _
    | cons x r ih =>
      intro h
      have a1 := h x List.mem_cons_self
      have a2 := ih fun z hz => h z (List.mem_cons_of_mem _ hz)
      rw [List.map_cons, List.sum_cons, List.length_cons]; omega
  have h4 := h3 hy
  have h5 : ys.length * a.length ≤ 100 * 1 := Nat.mul_le_mul hl ha
  omega
theorem gvt_truT {ds : List PyData} {r : TT} (h : Gv K t σ H (.tuple ds)) (hr : r = fun σ H Q => t σ H fun x H' => ∃ k, TruV K x H' k ∧ Q k H') : GvT r σ H (!ds.isEmpty) := fun H1 s Q q => by
  subst hr
  refine h H1 s _ fun v H2 s2 dv => ?_
  obtain ⟨a, xs, rfl, hq, hr⟩ := dv.tupI
  refine ⟨_, .inr (.inl ⟨xs, hq, rfl⟩), ?_⟩
  have : xs.isEmpty = ds.isEmpty := by cases hr <;> rfl
  rw [this]; exact q _ s2
/-- f"{x}>" -/
theorem gv_fnum {x : Int} {y : Str} (h : Gv K te σ H (.int x)) (hx : Dg x) (hy : y.length ≤ 100) {t : TE} (ht : t = fun σ H Q => tJs [tFmt te, tC (.str y)] Str.empty σ H fun out H1 => Q (.str out) H1) : Gv K t σ H (.str (numT x ++ y)) := fun H1 s Q q => by
  subst ht
  refine h H1 s _ fun v H2 s2 dv => ?_
  cases dv
  have l1 := (sm_num hx).ln
  have this : ∀ n < 10, (((n : Nat) : Int)).natAbs.log2 < 1920 := by decide +kernel
  refine .inr ⟨x, rfl, ?_, numT x, rfl, ?_, y, rfl, ?_, ?_⟩
  · obtain ⟨n, rfl⟩ : ∃ n : Nat, x = (n : Int) := ⟨x.toNat, (Int.toNat_of_nonneg hx.1).symm⟩
    exact this n (by have := hx.2; omega)
  · rw [Str.empty_append]; exact Nat.le_of_lt (small5 (by omega))
  · rw [Str.empty_append, Str.length_append]; exact Nat.le_of_lt (small5 (by omega))
  · have := q (.str (numT x ++ y)) H2 s2 (.str _)
    rw [Str.empty_append]; exact this
end
end Pr
/-! Texts read: words, numbers, what a text of a row gives. -/
namespace Pr
open PySem PySem.Spec PyProof.Rows L2

/-! ### numbers -/
def isNumL (l : List Nat) : Bool := !l.isEmpty && l.all (fun c => decide (48 ≤ c) && decide (c ≤ 57)) && (decide (l.head? ≠ some 48) || decide (l = [48]))
/-- the number whose text the word is -/
def numW (x : Str) : Option Nat := if isNumL (TL.tl x) = true then some (NumText.digitsVal (TL.tl x)) else none
theorem val_snoc (l : List Nat) (c : Nat) : NumText.digitsVal (l ++ [c]) = NumText.digitsVal l * 10 + (c - 48) := by
  unfold NumText.digitsVal; rw [List.foldl_append]; rfl
theorem num_of : ∀ (n : Nat) (l : List Nat), l.length = n → isNumL l = true → l = TL.numL (NumText.digitsVal l) := by
  intro n
  induction n with
  | zero => intro l hl h; rw [List.length_eq_zero_iff.mp hl] at h; cases h
  | succ n ih =>
    intro l hl h
    rcases List.eq_nil_or_concat l with rfl | ⟨l', c, rfl⟩
    · cases hl
    · rw [List.concat_eq_append] at *
      unfold isNumL at h
      simp only [Bool.and_eq_true, Bool.or_eq_true, List.all_eq_true, decide_eq_true_eq] at h
      obtain ⟨⟨_, hd⟩, h0⟩ := h
      have hc := hd c (List.mem_append_right _ List.mem_cons_self)
      by_cases e : l' = []
      · subst e
        show [c] = TL.numL (0 * 10 + (c - 48))
        rw [TL.numL_lt (by omega)]
        congr 1; omega
      · have hh : (l' ++ [c]).head? = l'.head? := by
          cases l' with
          | nil => exact absurd rfl e
          | cons a r => rfl
        have hne : l'.head? ≠ some 48 := by
          rcases h0 with h0 | h0
          · rw [← hh]; exact h0
          · intro _
            have := congrArg List.length h0
            rw [List.length_append] at this
            have : l'.length = 0 := by simpa using this
            exact e (List.length_eq_zero_iff.mp this)
        have hn : isNumL l' = true := by
          unfold isNumL
          simp only [Bool.and_eq_true, Bool.or_eq_true, List.all_eq_true, decide_eq_true_eq]
          refine ⟨⟨by cases l' with | nil => exact absurd rfl e | cons a r => rfl, fun x hx => hd x (List.mem_append_left _ hx)⟩, .inl hne⟩
        have e1 := ih l' (by rw [List.length_append] at hl; simpa using hl) hn
        have pos : 1 ≤ NumText.digitsVal l' := by
          rcases Nat.eq_zero_or_pos (NumText.digitsVal l') with z | z
          · rw [z, TL.numL_lt (by decide)] at e1
            rw [e1] at hne
            exact absurd rfl hne
          · exact z
        rw [val_snoc, TL.numL_step (by omega)]
        have a1 : (NumText.digitsVal l' * 10 + (c - 48)) / 10 = NumText.digitsVal l' := by omega
        have a2 : (NumText.digitsVal l' * 10 + (c - 48)) % 10 = c - 48 := by omega
        rw [a1, a2, ← e1]
        congr 2; omega
theorem numT_tl (n : Nat) : TL.tl (numT (n : Int)) = TL.numL n := TL.tl_num n
theorem isNum_lt {n : Nat} (h : n < 10) : isNumL (TL.numL n) = true := by
  have : ∀ n < 10, isNumL [48 + n] = true := by decide
  rw [TL.numL_lt h]; exact this n h
theorem numW_numT {n : Nat} (h : n < 10) : numW (numT (n : Int)) = some n := by
  unfold numW
  rw [numT_tl, if_pos (isNum_lt h), TL.numL_val]
theorem numW_is {x : Str} {n : Nat} (h : numW x = some n) : x = numT (n : Int) := by
  unfold numW at h
  split at h
  · rename_i z
    have e := num_of _ _ rfl z
    injection h with h
    rw [h] at e
    exact TL.ext_tl (by rw [e, numT_tl])
  · cases h
/-- a button's number -/
def okB (m : Nat) (x : Str) : Option Nat := match numW x with | some n => if n < m then some n else none | none => none
theorem okB_iff {m : Nat} (hm : m ≤ 10) {x : Str} {b : Nat} : okB m x = some b ↔ b < m ∧ x = numT (b : Int) := by
  unfold okB
  constructor
  · intro h
    cases e : numW x with
    | none => rw [e] at h; cases h
    | some n =>
      rw [e] at h
      replace h : (if n < m then some n else none) = some b := h
      split at h
      · injection h with h; subst h
        rename_i hn
        exact ⟨hn, numW_is e⟩
      · cases h
  · rintro ⟨h, rfl⟩
    rw [numW_numT (by omega)]
    exact if_pos h
def kvsB (m : Nat) : List (Key × V) := (List.range m).map fun b : Nat => (Sum.inr (numT (b : Int)), V.int (b : Int))
theorem kvsB_len (m : Nat) : (kvsB m).length = m := by unfold kvsB; rw [List.length_map, List.length_range]
theorem kvsB_succ (m : Nat) : kvsB (m + 1) = kvsB m ++ [(Sum.inr (numT (m : Int)), V.int (m : Int))] := by unfold kvsB; rw [List.range_succ, List.map_append]; rfl
theorem kvsB_new {m : Nat} (hm : m < 10) : (kvsB m).any (fun kv => decide (kv.1 = Sum.inr (numT (m : Int)))) = false := by
  rw [List.any_eq_false]
  intro kv hkv e
  unfold kvsB at hkv
  obtain ⟨b, hb, rfl⟩ := List.mem_map.mp hkv
  have hb := List.mem_range.mp hb
  have e := of_decide_eq_true e
  injection e with e
  have := num_inj (x := (b : Int)) (y := (m : Int)) ⟨by omega, by omega⟩ ⟨by omega, by omega⟩ e
  omega
theorem valV_kvs {m : Nat} (hm : m ≤ 10) (x : Str) : valV (kvsB m) (Sum.inr x) = (okB m x).map fun b : Nat => V.int (b : Int) := by
  unfold valV
  cases e : okB m x with
  | none =>
    have : (kvsB m).find? (fun kv => decide (kv.1 = Sum.inr x)) = none := by
      rw [List.find?_eq_none]
      intro kv hkv z
      unfold kvsB at hkv
      obtain ⟨b, hb, rfl⟩ := List.mem_map.mp hkv
      have z := of_decide_eq_true z
      injection z with z
      have : okB m x = some b := (okB_iff hm).mpr ⟨List.mem_range.mp hb, z.symm⟩
      rw [e] at this; cases this
    rw [this]; rfl
  | some b =>
    obtain ⟨hb, rfl⟩ := (okB_iff hm).mp e
    have : (kvsB m).find? (fun kv => decide (kv.1 = Sum.inr (numT (b : Int)))) = some (Sum.inr (numT (b : Int)), V.int (b : Int)) := by
      rw [List.find?_eq_some_iff_append]
      refine ⟨decide_eq_true rfl, kvsB b, ((List.range m).drop (b + 1)).map fun b : Nat => (Sum.inr (numT (b : Int)), V.int (b : Int)), ?_, fun kv hkv => ?_⟩
      · unfold kvsB
        have h1 : List.range m = List.range b ++ (b :: (List.range m).drop (b + 1)) := by
          have h2 : (List.range m).drop b = b :: (List.range m).drop (b + 1) := by
            rw [List.drop_eq_getElem_cons (by rw [List.length_range]; exact hb), List.getElem_range]
          have h3 : (List.range m).take b = List.range b := by rw [List.take_range, Nat.min_eq_left (Nat.le_of_lt hb)]
          rw [← h2, ← h3, List.take_append_drop]
        conv => lhs; rw [h1]
        rw [List.map_append, List.map_cons]
      · have := List.any_eq_false.mp (kvsB_new (m := b) (by omega)) kv hkv
        simpa using this
    rw [this]; rfl

/-! ### the row of a text -/
def badI (m : Nat) : Nat → List Str → Option Nat
  | _, [] => none
  | i, x :: r => if okB m x = none ∨ i = 60 then some i else badI m (i + 1) r
def okW (m i : Nat) (x : Str) : Prop := ¬ (okB m x = none ∨ i = 60)
theorem badI_drop {m : Nat} {ws : List Str} : ∀ {k : Nat}, k ≤ ws.length → (∀ j x, j < k → ws[j]? = some x → okW m j x) → badI m 0 ws = badI m k (ws.drop k) := by
  intro k
  induction k with
  | zero => intro _ _; rfl
  | succ k ih =>
    intro hk h
    rw [ih (by omega) fun j x hj hx => h j x (by omega) hx, List.drop_eq_getElem_cons (by omega)]
    have := h k ws[k] (by omega) (List.getElem?_eq_getElem (by omega))
    exact if_neg this
theorem badI_all {m : Nat} {ws : List Str} (h : ∀ j x, ws[j]? = some x → okW m j x) : badI m 0 ws = none := by
  rw [badI_drop (Nat.le_refl _) fun j x _ hx => h j x hx, List.drop_length]; rfl
theorem badI_at {m k : Nat} {ws : List Str} {x : Str} (hx : ws[k]? = some x) (h : ∀ j x, j < k → ws[j]? = some x → okW m j x) (b : okB m x = none ∨ k = 60) : badI m 0 ws = some k := by
  have hk := (List.getElem?_eq_some_iff.mp hx)
  obtain ⟨hk, e⟩ := hk
  rw [badI_drop (Nat.le_of_lt hk) h, List.drop_eq_getElem_cons hk, e]
  exact if_pos b
def wordsT (x : Str) : List Str := if x = ("none" : Str) then [] else Txt.split x (" " : Str)
def valsB (m : Nat) (ws : List Str) : List Int := ws.map fun x => (((okB m x).getD 0 : Nat) : Int)
def resM (m : Nat) (x : Str) : PyData := match badI m 0 (wordsT x) with | some i => .list [.int (i : Int)] | none => dInts (valsB m (wordsT x))
def resD (m : Nat) : PyData → PyData
  | .str x => resM m x
  | _ => .list [.none]

/-! ### how long texts are -/
theorem pre1 (s c : Nat) (r : List Nat) : TL.pre [s] (c :: r) = decide (c = s) := by
  unfold TL.pre
  show ([c] == [s]) = _
  by_cases h : c = s
  · subst h; simp
  · rw [decide_eq_false h]
    simpa using h
theorem spl_len (s : Nat) : ∀ (l acc : List Nat), ((TL.spl [s] 0 acc l).map fun p => p.length + 1).sum = acc.length + l.length + 1
  | [], acc => by rw [TL.spl_nil]; simp
  | c :: r, acc => by
    by_cases h : c = s
    · rw [TL.spl_hit (by rw [pre1]; exact decide_eq_true h), List.map_cons, List.sum_cons, show [s].length - 1 = 0 from rfl, spl_len s r []]
      simp only [List.length_nil, List.length_cons]; omega
    · rw [TL.spl_miss (by rw [pre1]; exact decide_eq_false h), spl_len s r (acc ++ [c])]
      simp only [List.length_append, List.length_cons, List.length_nil]; omega
theorem spl_sub (s : Nat) : ∀ (l acc : List Nat), ∀ p ∈ TL.spl [s] 0 acc l, ∀ c ∈ p, c ∈ acc ∨ c ∈ l
  | [], acc, p, hp, c, hc => by
    rw [TL.spl_nil] at hp
    rw [List.mem_singleton.mp hp] at hc
    exact .inl hc
  | d :: r, acc, p, hp, c, hc => by
    by_cases h : d = s
    · rw [TL.spl_hit (by rw [pre1]; exact decide_eq_true h), show [s].length - 1 = 0 from rfl] at hp
      rcases List.mem_cons.mp hp with rfl | hp
      · exact .inl hc
      · rcases spl_sub s r [] p hp c hc with z | z
        · cases z
        · exact .inr (List.mem_cons_of_mem _ z)
    · rw [TL.spl_miss (by rw [pre1]; exact decide_eq_false h)] at hp
      rcases spl_sub s r (acc ++ [d]) p hp c hc with z | z
      · rcases List.mem_append.mp z with z | z
        · exact .inl z
        · rw [List.mem_singleton.mp z]; exact .inr List.mem_cons_self
      · exact .inr (List.mem_cons_of_mem _ z)
def totW (ws : List Str) : Nat := (ws.map fun x => x.length + 1).sum
theorem tot_mem {ws : List Str} {x : Str} (h : x ∈ ws) : x.length + 1 ≤ totW ws := by
  induction ws with
  | nil => cases h
  | cons a r ih =>
    unfold totW at *
    rw [List.map_cons, List.sum_cons]
    rcases List.mem_cons.mp h with rfl | h
    · omega
    · have := ih h; omega
theorem tot_append (a b : List Str) : totW (a ++ b) = totW a + totW b := by unfold totW; rw [List.map_append, List.sum_append]
theorem tot_len (ws : List Str) : ws.length ≤ totW ws := by
  induction ws with
  | nil => exact Nat.le_refl _
  | cons a r ih =>
    unfold totW at *
    rw [List.map_cons, List.sum_cons, List.length_cons]; omega
/-- the separator is a single sign -/
structure Sep (y : Str) : Prop where
  one : ∃ s, TL.tl y = [s] ∧ s < 128
theorem sep_sp : Sep (" " : Str) := ⟨⟨32, by decide +kernel, by decide⟩⟩
theorem sep_co : Sep ("," : Str) := ⟨⟨44, by decide +kernel, by decide⟩⟩
theorem Sep.kind {y : Str} (h : Sep y) (x : Str) : ¬ Builtin.Str.strKind x < Builtin.Str.strKind y := by
  obtain ⟨s, e, hs⟩ := h.one
  refine TL.kind_ok ?_
  rw [Array.all_eq_true']
  intro c hc
  have : c ∈ TL.tl y := by show c ∈ y.cps.toList; simpa using hc
  rw [e, List.mem_singleton] at this
  simp; omega
theorem split_tl {y : Str} (h : Sep y) (x : Str) : ∃ s, TL.tl y = [s] ∧ (Txt.split x y).map TL.tl = TL.spl [s] 0 [] (TL.tl x) := by
  obtain ⟨s, e, hs⟩ := h.one
  refine ⟨s, e, ?_⟩
  rw [TL.split_spl x y (by rw [e]; simp) (h.kind x), e]
theorem split_tot {y : Str} (h : Sep y) (x : Str) : totW (Txt.split x y) = x.length + 1 := by
  obtain ⟨s, _, e⟩ := split_tl h x
  have := spl_len s (TL.tl x) []
  rw [← e, List.map_map] at this
  unfold totW
  rw [TL.len_tl x]
  simp only [List.length_nil, Nat.zero_add] at this
  rw [← this]
  exact congrArg List.sum (List.map_congr_left fun z _ => by show z.length + 1 = (TL.tl z).length + 1; rw [TL.len_tl])
theorem split_ne {y : Str} (h : Sep y) (x : Str) : Txt.split x y ≠ [] := fun z => by
  have := split_tot h x
  rw [z] at this
  cases this
theorem split_len {y : Str} (h : Sep y) {n : Nat} {x : Str} (hx : Sm n x) : (Txt.split x y).length ≤ n + 1 := by
  have h1 := split_tot h x
  have h2 := tot_len (Txt.split x y)
  have := hx.ln
  omega
theorem split_sm {y : Str} (h : Sep y) {n : Nat} {x : Str} (hx : Sm n x) : ∀ z ∈ Txt.split x y, Sm n z := fun z hz => by
  obtain ⟨s, _, e⟩ := split_tl h x
  refine ⟨?_, fun c hc => ?_⟩
  · have h1 := split_tot h x
    have h2 := tot_mem hz
    have := hx.ln
    omega
  · have : TL.tl z ∈ TL.spl [s] 0 [] (TL.tl x) := by rw [← e]; exact List.mem_map_of_mem hz
    rcases spl_sub s _ _ _ this c hc with q | q
    · cases q
    · exact hx.cs c q
theorem join_tot {y : Str} (h : Sep y) : ∀ ws : List Str, (Txt.join y ws).length ≤ totW ws
  | [] => by rw [TL.join_eq]; exact Nat.zero_le _
  | [p] => by rw [TL.join_eq]; show p.length ≤ p.length + 1 + 0; omega
  | p :: q :: r => by
    have ih := join_tot h (q :: r)
    rw [TL.join_eq] at ih ⊢
    obtain ⟨s, e, _⟩ := h.one
    have hy : y.length = 1 := by rw [TL.len_tl, e]; rfl
    show (p ++ y ++ Str.join y (q :: r)).length ≤ _
    rw [Str.length_append, Str.length_append, hy]
    show _ ≤ p.length + 1 + totW (q :: r)
    omega
theorem join_cs {y : Str} (h : Sep y) : ∀ ws : List Str, (∀ z ∈ ws, ∀ c ∈ TL.tl z, c < 128) → ∀ c ∈ TL.tl (Txt.join y ws), c < 128
  | [], _ => by rw [TL.join_eq]; intro c hc; cases hc
  | [p], hw => by rw [TL.join_eq]; exact hw p List.mem_cons_self
  | p :: q :: r, hw => by
    have ih := join_cs h (q :: r) fun z hz => hw z (List.mem_cons_of_mem _ hz)
    rw [TL.join_eq] at ih ⊢
    obtain ⟨s, e, hs⟩ := h.one
    show ∀ c ∈ TL.tl (p ++ y ++ Str.join y (q :: r)), c < 128
    rw [TL.tl_append, TL.tl_append]
    intro c hc
    rcases List.mem_append.mp hc with hc | hc
    · rcases List.mem_append.mp hc with hc | hc
      · exact hw p List.mem_cons_self c hc
      · rw [e, List.mem_singleton] at hc; omega
    · exact ih c hc
theorem join_sm {y : Str} (h : Sep y) {n : Nat} {ws : List Str} (ht : totW ws ≤ n) (hw : ∀ z ∈ ws, ∀ c ∈ TL.tl z, c < 128) : Sm n (Txt.join y ws) := ⟨Nat.le_trans (join_tot h ws) ht, join_cs h ws hw⟩
theorem cut_sm {n : Nat} {x : Str} (h : Sm n x) (lo hi : Option Int) : Sm n (cutS x lo hi) := ⟨Nat.le_trans (cutS_length x lo hi) h.ln, fun c hc => by
  have e : TL.tl (cutS x lo hi) = (((TL.tl x).drop (HT.sIx x.length 0 lo)).take (HT.sIx x.length x.length hi - HT.sIx x.length 0 lo)) := rfl
  rw [e] at hc
  exact h.cs c (List.mem_of_mem_drop (List.mem_of_mem_take hc))⟩
/-- a text again and again -/
def repT (x : Str) (n : Nat) : Str := if n < 1 then Str.empty else if (((n : Int)) == 1 || x.length == 0) = true then x else ⟨(List.replicate n x.cps).foldl (· ++ ·) #[]⟩
theorem fold_cps (x : Array Nat) : ∀ (n : Nat) (a : Array Nat), ((List.replicate n x).foldl (· ++ ·) a).toList = a.toList ++ (List.replicate n x.toList).flatten
  | 0, a => by simp
  | n + 1, a => by
    rw [List.replicate_succ, List.foldl_cons, fold_cps x n (a ++ x), Array.toList_append, List.replicate_succ, List.flatten_cons, List.append_assoc]
theorem repT_tl (x : Str) (n : Nat) : TL.tl (repT x n) = (List.replicate n (TL.tl x)).flatten := by
  unfold repT
  split
  · have : n = 0 := by omega
    subst this; rfl
  · split
    · rename_i h
      rw [Bool.or_eq_true] at h
      rcases h with h | h
      · have : n = 1 := by have := eq_of_beq h; omega
        subst this
        simp
      · have : TL.tl x = [] := List.length_eq_zero_iff.mp (by rw [← TL.len_tl]; exact eq_of_beq h)
        rw [this]; simp
    · show ((List.replicate n x.cps).foldl (· ++ ·) #[]).toList = _
      rw [fold_cps]; rfl
theorem rep_sm {k n : Nat} {x : Str} (h : Sm k x) : Sm (n * k) (repT x n) := by
  have hl := h.ln
  rw [TL.len_tl] at hl
  refine ⟨?_, fun c hc => ?_⟩
  · rw [TL.len_tl, repT_tl, List.length_flatten, List.map_replicate, List.sum_replicate_nat]
    exact Nat.mul_le_mul_left n hl
  · rw [repT_tl] at hc
    obtain ⟨l, hl, hc⟩ := List.mem_flatten.mp hc
    rw [List.eq_of_mem_replicate hl] at hc
    exact h.cs c hc
section
variable {X : Cx}
def rMulS : R2 := fun x y H Q => ∃ (z : Str) (n : Nat), x = .str z ∧ y = .int (n : Int) ∧ z.length ≤ 1000 ∧ n ≤ 1000 ∧ Q (.str (repT z n)) H
theorem op_mulS : OpR X (binaryOp .Mult) rMulS := by
  intro pins s σ H x y v u Q I rx ry h
  obtain ⟨z, n, rfl, rfl, hz, hn, q⟩ := h
  obtain ⟨t, rfl⟩ := rx
  obtain ⟨t', rfl⟩ := ry
  have hb : z.length * n ≤ 1000 * 1000 := Nat.mul_le_mul hz hn
  refine PySem.P.mul_str ?_ (fun h1 h2 => ?_) (fun h1 h2 => ?_) ?_
  · rw [decide_eq_false (by omega), decide_eq_false (by omega)]; rfl
  · intro hgt
    have h3 : (1 : Int) ≤ (n : Int) := by omega
    have h4 : (z.length : Int) * (n : Int) ≤ 1000 * 1000 := by exact_mod_cast hb
    have h5 : ((2 : Int) ^ 63 - 1) / (n : Int) < (z.length : Int) := hgt
    have h6 : ((2 : Int) ^ 63 - 1) < (z.length : Int) * (n : Int) := Int.lt_mul_of_ediv_lt (by omega) h5
    omega
  · rw [Int.toNat_natCast]
    unfold PySem.Builtin.Str.tooLong
    exact decide_eq_false (by rw [sizeLine_eq]; omega)
  · have e : repT z n = if n < 1 then Str.empty else if (((n : Int)) == 1 || z.length == 0) = true then z else ⟨(List.replicate n z.cps).foldl (· ++ ·) #[]⟩ := rfl
    by_cases h1 : n < 1
    · rw [if_pos (by omega)]
      rw [e, if_pos h1] at q
      exact ⟨by decide, .str _, H, I.tok _, ⟨_, rfl⟩, q⟩
    · rw [if_neg (by omega)]
      rw [e, if_neg h1] at q
      by_cases h2 : (((n : Int)) == 1 || z.length == 0) = true
      · rw [if_pos h2] at q ⊢
        exact ⟨.str z, H, I, ⟨t, rfl⟩, q⟩
      · rw [if_neg h2] at q ⊢
        rw [Int.toNat_natCast]
        refine ⟨?_, .str _, H, I.tok _, ⟨_, rfl⟩, q⟩
        show ((List.replicate n z.cps).foldl (· ++ ·) #[]).size ≤ sizeLine
        rw [← Array.length_toList, fold_cps, List.length_append, List.length_flatten, List.map_replicate, List.sum_replicate_nat]
        show 0 + n * z.cps.toList.length ≤ _
        have : z.cps.toList.length = z.length := Array.length_toList
        rw [this, sizeLine_eq, Nat.mul_comm]; omega
end
end Pr
/-! Small data of any kind. -/
namespace Pr
open PySem PySem.Spec PyProof.Rows L2
def tlen : PyData → Bool
  | .tuple es => decide (es.length ≤ 60)
  | _ => true
def smlB : PyData → Bool
  | .tuple ds => ds.all tlen
  | _ => true
def lowB (d : PyData) : Bool := d.showable && decide (d.depth ≤ 3) && decide (d.shown.length ≤ 60) && tlen d && smlB d
/-- a small thing: at most three deep, at most sixty signs -/
def Low (d : PyData) : Prop := lowB d = true
theorem Low.shq {d : PyData} (h : Low d) : Shq 3 60 d := by
  simp only [Low, lowB, Bool.and_eq_true, decide_eq_true_eq] at h
  exact ⟨h.1.1.1.1, h.1.1.1.2, h.1.1.2⟩
theorem Low.len {d : PyData} (h : Low d) : tlen d = true := by
  simp only [Low, lowB, Bool.and_eq_true, decide_eq_true_eq] at h
  exact h.1.2
theorem Low.sml {d : PyData} (h : Low d) : smlB d = true := by
  simp only [Low, lowB, Bool.and_eq_true, decide_eq_true_eq] at h
  exact h.2
theorem low_int {i : Int} (h0 : 0 ≤ i) (h : i < 100) : Low (.int i) := by
  have s := Shw.int (k := 2) h0 (by decide) (by decide) h
  simp only [Low, lowB, Bool.and_eq_true, decide_eq_true_eq]
  exact ⟨⟨⟨⟨s.sh, Nat.le_trans s.dp (by decide)⟩, Nat.le_trans s.ln (by decide)⟩, rfl⟩, rfl⟩
theorem low_bool (b : Bool) : Low (.bool b) := by cases b <;> (show lowB _ = true; decide +kernel)
/-- what may stand in a panel's place: a small thing, or a tuple or list of at most sixty small ones -/
def Mid (d : PyData) : Prop := Shq 4 4000 d ∧ tlen d = true
theorem Low.mid {d : PyData} (h : Low d) : Mid d := ⟨h.shq.mono (by decide) (by decide), h.len⟩
theorem tup_mid {d : PyData} (h : TupP Low 60 d) : Mid d := by
  obtain ⟨ds, rfl, l, p⟩ := h
  exact ⟨(Shq.tuple (fun x hx => (p x hx).shq) l).mono (by decide) (by decide), decide_eq_true l⟩
theorem lst_mid {d : PyData} (h : LstP Low 60 d) : Mid d := by
  obtain ⟨ds, rfl, l, p⟩ := h
  exact ⟨(Shq.list (fun x hx => (p x hx).shq) l).mono (by decide) (by decide), rfl⟩
/-- values of the laws -/
def Top (d : PyData) : Prop := Shq 5 2000000 d ∧ smlB d = true
theorem tup_top {d : PyData} (h : TupP Mid 200 d) : Top d := by
  obtain ⟨ds, rfl, l, p⟩ := h
  exact ⟨(Shq.tuple (fun x hx => (p x hx).1) l).mono (by decide) (by decide), List.all_eq_true.mpr fun x hx => (p x hx).2⟩
theorem lst_top {d : PyData} (h : LstP Mid 200 d) : Top d := by
  obtain ⟨ds, rfl, l, p⟩ := h
  exact ⟨(Shq.list (fun x hx => (p x hx).1) l).mono (by decide) (by decide), rfl⟩
theorem Low.top {d : PyData} (h : Low d) : Top d := ⟨h.shq.mono (by decide) (by decide), h.sml⟩
theorem smlB_spec {d : PyData} (h : smlB d = true) : ∀ ds, d = .tuple ds → ∀ x ∈ ds, ∀ es, x = .tuple es → es.length ≤ 60 := by
  intro ds e x hx es e'
  subst e e'
  exact of_decide_eq_true (List.all_eq_true.mp h _ hx)
end Pr
/-! Caught errors of own classes, with fields: isinstance; and more of data. -/
namespace Pr
open PySem PySem.Spec PyProof.Rows L2
/-- the exception that the suite holds, of the class D, its dict d -/
def HeldX (D : Addr) (cls : Value) (d : Option Addr) (H : Hp) : Prop := cls = .ref D ∧ ∃ dd fs, d = some dd ∧ H dd = some (.xd fs)
def rIsX (K : PySem.W.Frag) (D a : Addr) (cls : Value) (d : Option Addr) : List V → Hp → VK → Prop := fun xs H Q => HeldX D cls d H ∧ ∃ (c : V) (u : Value) (b : Bool), xs = [.ref a, c] ∧ ClsV c u ∧ PySem.W.kitOne K (.ref D) u = some b ∧ Q (.bl b) H
def rIsXT (K : PySem.W.Frag) (D a : Addr) (cls : Value) (d : Option Addr) : List V → Hp → VK → Prop := fun xs H Q => HeldX D cls d H ∧ ∃ (tp : Addr) (cs : List V) (us : List Value) (b : Bool), xs = [.ref a, .ref tp] ∧ H tp = some (.tup cs) ∧ Paired ClsV cs us ∧ PySem.W.kitAny K (.ref D) us = some b ∧ Q (.bl b) H
section
variable {X : Cx} {a D : Addr} {oe : Obj} {cls : Value} {d : Option Addr} {pn pins : List (Addr × Obj)} {s : Shared} {σ : L2.St} {H : Hp}
theorem held_inst (hz : Zc cls d oe) (hf : ∃ vs, oe.data = .fields vs) (I : Inv (X.suite a ((a, oe) :: pn)) pins σ H s) (h : HeldX D cls d H) : ∃ od : Obj, PySem.W.InstAt s.heap a oe D (some od) := by
  obtain ⟨rfl, dd, fs, rfl, ea⟩ := h
  obtain ⟨ha, _⟩ := I.pin (a, oe) (List.mem_append_left _ List.mem_cons_self)
  obtain ⟨vs, hd⟩ := hf
  have hx : ObjOk X.prog X.w H s.heap dd (.xd fs) := I.hok dd _ ea
  obtain ⟨mA, hns, hr⟩ := hx
  obtain ⟨od, ho, hl⟩ := lookIn_ns hns
  exact ⟨od, ha, hz.1, by unfold PySem.W.notCls; rw [hd] <;> rfl, by rw [hz.2]; exact ho⟩
theorem kitx_of_exc {x : Addr} {ox : Obj} {od : Option Obj} {K : PySem.W.Frag} (C : ExcC K D) : PySem.W.KitX K (.ref x) (.ref D) (fun h => PySem.W.InstAt h x ox D od) :=
  PySem.W.kitx_exc (by obtain ⟨cd, hc, _⟩ := PySem.W.any_some C.hd; rw [hc]; rfl) C.hg C.hk C.hs C.ha C.hn C.ht C.hm
theorem call_isX (C : ExcC X.K D) (hz : Zc cls d oe) (hf : ∃ vs, oe.data = .fields vs) : CallR (X.suite a ((a, oe) :: pn)) (.builtin "isinstance") (rIsX X.K D a cls d) := by
  intro pins s σ H xs us Q I r h
  obtain ⟨hh, c, u, b, rfl, k, e, q⟩ := h
  obtain ⟨u1, u2, rfl, r1, r2⟩ := vals2 r
  cases (show u1 = Value.ref a from r1)
  have e2 := k.eq r2
  subst e2
  obtain ⟨od, J⟩ := held_inst hz hf I hh
  exact PySem.W.kia_one (kitx_of_exc C) I.kIn J e (fun z => nomatch z) fun tk => ⟨.bl b, H, I.tok tk, rfl, q⟩
theorem call_isXT (C : ExcC X.K D) (hz : Zc cls d oe) (hf : ∃ vs, oe.data = .fields vs) : CallR (X.suite a ((a, oe) :: pn)) (.builtin "isinstance") (rIsXT X.K D a cls d) := by
  intro pins s σ H xs us Q I r h
  obtain ⟨hh, tp, cs, ws, b, rfl, hT, k, e, q⟩ := h
  obtain ⟨u1, u2, rfl, r1, r2⟩ := vals2 r
  cases (show u1 = Value.ref a from r1)
  cases (show u2 = Value.ref tp from r2)
  obtain ⟨od, J⟩ := held_inst hz hf I hh
  obtain ⟨_, its, rv, o, h1, h2, n, h3⟩ := (show ObjOk X.prog X.w H s.heap tp (.tup cs) from I.hok tp _ hT)
  have e3 := ClsV.all k rv
  subst e3
  obtain ⟨oc, od', dt, sl⟩ := o
  simp only at h2 h3
  subst h2 h3
  exact PySem.W.kia_tup (kitx_of_exc C) I.kIn J h1 e (fun z => nomatch z) fun tk => ⟨.bl b, H, I.tok tk, rfl, q⟩
end
/-! ### more of data -/
section
variable {K : PySem.W.Frag} {N N' : Addr → Prop} {H : Hp}
mutual
theorem Dq.weak (hN : ∀ x, N' x → N x) : ∀ (d : PyData) (v : V), Dq K N H v d → Dq K N' H v d
  | .none, _, h => by cases h; exact .non
  | .bool b, _, h => by cases h; exact .bl b
  | .int i, _, h => by cases h; exact .int i
  | .str x, _, h => by cases h; exact .str x
  | .list ds, _, h => by
    cases h with
    | lst h1 h2 e q => exact .lst h1 (fun z => h2 (hN _ z)) e (Dq.weakAll hN ds _ q)
  | .tuple ds, _, h => by
    cases h with
    | tup e q => exact .tup e (Dq.weakAll hN ds _ q)
  | .dict kvs, _, h => by
    cases h with
    | dct0 e => exact .dct0 e
    | dct1 e => exact .dct1 e
theorem Dq.weakAll (hN : ∀ x, N' x → N x) : ∀ (ds : List PyData) (vs : List V), DqAll K N H vs ds → DqAll K N' H vs ds
  | [], _, h => by cases h; exact .nil
  | d :: ds, _, h => by
    cases h with
    | cons r t => exact .cons (Dq.weak hN d _ r) (Dq.weakAll hN ds _ t)
end
mutual
theorem Dq.toDp : ∀ (d : PyData) (v : V), d.hasDict = false → Dq K N H v d → Dp K H v d
  | .none, _, _, h => by cases h; exact .non
  | .bool b, _, _, h => by cases h; exact .bl b
  | .int i, _, _, h => by cases h; exact .int i
  | .str x, _, _, h => by cases h; exact .str x
  | .list ds, _, n, h => by
    cases h with
    | lst h1 h2 e q => exact .lst (.inl (.inl e)) (Dq.toDpAll ds _ (by simpa only [PyData.hasDict] using n) q)
  | .tuple ds, _, n, h => by
    cases h with
    | tup e q => exact .tup e (Dq.toDpAll ds _ (by simpa only [PyData.hasDict] using n) q)
  | .dict kvs, _, n, h => by simp [PyData.hasDict] at n
theorem Dq.toDpAll : ∀ (ds : List PyData) (vs : List V), PyData.hasDictAll ds = false → DqAll K N H vs ds → DpAll K H vs ds
  | [], _, _, h => by cases h; exact .nil
  | d :: ds, _, n, h => by
    cases h with
    | cons r t =>
      simp only [PyData.hasDictAll, Bool.or_eq_false_iff] at n
      exact .cons (Dq.toDp d _ n.1 r) (Dq.toDpAll ds _ n.2 t)
end
end
end Pr
/-! C(), C an own error class without __init__. -/
namespace Pr
open PySem PySem.Spec PyProof.Rows L2
section
variable {X : Cx}
theorem pmk_own0 {C : Addr} {bmB : List Value} {B newId initId : String} {x : Str} {p pos : Pos} (F : ExcBaseFacts B newId initId bmB) (q : PySem.W.excIn X.K C bmB newId = true) (gC : X.mg x = some (.ref C)) (kC : PySem.W.keepIn X.K (.ref C) = true) (r : Raises X (.ref C)) (hg : Gl X x)
    (hdb : (x == ("__debug__" : Str)) = false := by decide) : PMk X (.Call (.Name x p) [] [] pos) (fun _ H Q => Q (.ref C) none H) := by
  intro pins s σ H Q I h
  refine wpAny_Call_Name_kw (ld_glob I hg gC ?_ hdb)
  refine PySem.W.callWith_K0 I.kIn kC ?_
  show wpAny _ _ (call (.ref C) []) _ _ _
  obtain ⟨bm, N, nm, qn, bs, hdct, sn, sub, ab, col, dd, k0, k1, k2, k3, k5, mN, hC, hN, hni, T⟩ := exc_obj I.kIn q
  refine wpAny_call_exc_subT F T hC hN hni (fun h' e hm => ?_) (by show 0 ≤ sizeLine; omega)
  exact mk_of I hm r h (I.hok.gone hm.new)
/-- what the top says of such a class -/
structure Ex0 (K : PySem.W.Frag) (mg : Str → Option Value) (nm : Str) (C : Addr) : Prop where
  q : PySem.W.excIn K C [.type "ValueError", .type "Exception", .type "BaseException", .type "object"] "ValueError.__new__" = true
  g : mg nm = some (.ref C)
  k : PySem.W.keepIn K (.ref C) = true
  s : PySem.W.subIn K (.ref C) (.type "BaseException") = some true
  t : PySem.W.typeIn K (.ref C) = some (.type "type")
theorem Ex0.made {nm : Str} {C : Addr} {p pos : Pos} (T : Ex0 X.K X.mg nm C) (hg : Gl X nm) (hdb : (nm == ("__debug__" : Str)) = false := by decide) : PMk X (.Call (.Name nm p) [] [] pos) (fun _ H Q => Q (.ref C) none H) :=
  pmk_own0 PySem.F.excBase_ValueError T.q T.g T.k (raises_own T.s T.t) hg hdb
end

/-! ### isinstance of a caught error, with fields or without -/
def HeldY (D : Addr) (cls : Value) (d : Option Addr) (H : Hp) : Prop := cls = .ref D ∧ (d = none ∨ ∃ dd fs, d = some dd ∧ H dd = some (.xd fs))
def rIsY (K : PySem.W.Frag) (D a : Addr) (cls : Value) (d : Option Addr) : List V → Hp → VK → Prop := fun xs H Q => HeldY D cls d H ∧ ∃ (c : V) (u : Value) (b : Bool), xs = [.ref a, c] ∧ ClsV c u ∧ PySem.W.kitOne K (.ref D) u = some b ∧ Q (.bl b) H
def rIsYT (K : PySem.W.Frag) (D a : Addr) (cls : Value) (d : Option Addr) : List V → Hp → VK → Prop := fun xs H Q => HeldY D cls d H ∧ ∃ (tp : Addr) (cs : List V) (us : List Value) (b : Bool), xs = [.ref a, .ref tp] ∧ H tp = some (.tup cs) ∧ Paired ClsV cs us ∧ PySem.W.kitAny K (.ref D) us = some b ∧ Q (.bl b) H
section
variable {X : Cx} {a D : Addr} {oe : Obj} {cls : Value} {d : Option Addr} {pn pins : List (Addr × Obj)} {s : Shared} {σ : L2.St} {H : Hp}
theorem held_instY (hz : Zc cls d oe) (hf : ∃ vs, oe.data = .fields vs) (I : Inv (X.suite a ((a, oe) :: pn)) pins σ H s) (h : HeldY D cls d H) : ∃ od : Option Obj, PySem.W.InstAt s.heap a oe D od := by
  obtain ⟨rfl, rfl | ⟨dd, fs, rfl, ea⟩⟩ := h
  · obtain ⟨ha, _⟩ := I.pin (a, oe) (List.mem_append_left _ List.mem_cons_self)
    obtain ⟨vs, hd⟩ := hf
    exact ⟨none, ha, hz.1, by unfold PySem.W.notCls; rw [hd] <;> rfl, by rw [hz.2]; trivial⟩
  · obtain ⟨od, h⟩ := held_inst hz hf I ⟨rfl, dd, fs, rfl, ea⟩
    exact ⟨some od, h⟩
theorem call_isY (C : ExcC X.K D) (hz : Zc cls d oe) (hf : ∃ vs, oe.data = .fields vs) : CallR (X.suite a ((a, oe) :: pn)) (.builtin "isinstance") (rIsY X.K D a cls d) := by
  intro pins s σ H xs us Q I r h
  obtain ⟨hh, c, u, b, rfl, k, e, q⟩ := h
  obtain ⟨u1, u2, rfl, r1, r2⟩ := vals2 r
  cases (show u1 = Value.ref a from r1)
  have e2 := k.eq r2
  subst e2
  obtain ⟨od, J⟩ := held_instY hz hf I hh
  exact PySem.W.kia_one (kitx_of_exc C) I.kIn J e (fun z => nomatch z) fun tk => ⟨.bl b, H, I.tok tk, rfl, q⟩
theorem call_isYT (C : ExcC X.K D) (hz : Zc cls d oe) (hf : ∃ vs, oe.data = .fields vs) : CallR (X.suite a ((a, oe) :: pn)) (.builtin "isinstance") (rIsYT X.K D a cls d) := by
  intro pins s σ H xs us Q I r h
  obtain ⟨hh, tp, cs, ws, b, rfl, hT, k, e, q⟩ := h
  obtain ⟨u1, u2, rfl, r1, r2⟩ := vals2 r
  cases (show u1 = Value.ref a from r1)
  cases (show u2 = Value.ref tp from r2)
  obtain ⟨od, J⟩ := held_instY hz hf I hh
  obtain ⟨_, its, rv, o, h1, h2, n, h3⟩ := (show ObjOk X.prog X.w H s.heap tp (.tup cs) from I.hok tp _ hT)
  have e3 := ClsV.all k rv
  subst e3
  obtain ⟨oc, od', dt, sl⟩ := o
  simp only at h2 h3
  subst h2 h3
  exact PySem.W.kia_tup (kitx_of_exc C) I.kIn J h1 e (fun z => nomatch z) fun tk => ⟨.bl b, H, I.tok tk, rfl, q⟩
end
theorem kit_selfY {K : PySem.W.Frag} {C : Addr} : PySem.W.kitOne K (.ref C) (.ref C) = some true := if_pos (beq_self_eq_true _)
theorem passX {X : Cx} : Passes (L2.CX X.prog X.w) X E0 := fun _ _ _ _ _ _ _ h => by
  obtain ⟨_, _, _, _, _, _, _, _, _, _, _, _, z⟩ := h
  exact z.elim
end Pr
/-! Own errors with a field; a def with a star parameter, called plainly. -/
namespace Pr
open PySem PySem.Spec PyProof.Rows L2
/-- what the top says of an error class with one field, and of its __init__ -/
structure ExF (K : PySem.W.Frag) (mg : Str → Option Value) (nm fld qn : Str) (sI : Stmt) (C fI : Addr) (fdI : FuncData) : Prop where
  oex : OexC K C
  iC : PySem.W.findIn K (.ref C) "__init__" = some (some (.ref fI))
  tI : PySem.W.typeIn K (.ref fI) = some (.type "function")
  noN : PySem.W.findIn K (.ref C) fld = some none
  g : mg nm = some (.ref C)
  FI : Fun K "__init__" qn sI fI fdI
  bI : Binds K fdI ["self", fld] []
def spI (K : PySem.W.Frag) (C : Addr) (fld : Str) : Sp := fun vs H Q _ => ∃ (e : Addr) (y : V), vs = [.ref e, y] ∧ OexC K C ∧ PySem.W.findIn K (.ref C) fld = some none ∧ H e = some (exo e C none) ∧
  ∀ dx, H dx = none → dx ≠ e → Q .non (upd (upd H dx (exd dx [(fld, y)])) e (exo e C (some dx)))
theorem madeF {H : Hp} {C a dx : Addr} {y : V} {fld : Str} (na : H a = none) (nd : (upd H a (exo a C none)) dx = none) (ne : dx ≠ a) :
    (upd (upd (upd H a (exo a C none)) dx (exd dx [(fld, y)])) a (exo a C (some dx))) a = some (exo a C (some dx)) ∧
    (upd (upd (upd H a (exo a C none)) dx (exd dx [(fld, y)])) a (exo a C (some dx))) dx = some (exd dx [(fld, y)]) ∧ H dx = none ∧
    Same H (upd (del (upd (upd (upd H a (exo a C none)) dx (exd dx [(fld, y)])) a (exo a C (some dx))) a) dx (.xd [(fld, y)])) := by
  have nd' : H dx = none := by rw [upd_ne ne] at nd; exact nd
  refine ⟨upd_same, by rw [upd_ne ne, upd_same], nd', fun b o e => ?_⟩
  rw [upd_ne (ne_of_none e nd'), del_ne (ne_of_none e na), upd_ne (ne_of_none e na), upd_ne (ne_of_none e nd'), upd_ne (ne_of_none e na)]
  exact e
/-- what is left to answer where such an error is made with y -/
theorem rzF {K : PySem.W.Frag} {mg : Str → Option Value} {nm fld qn : Str} {sI : Stmt} {C fI : Addr} {fdI : FuncData} (T : ExF K mg nm fld qn sI C fI fdI) {Hx : Hp} {y : V} {E : XK} (q : ∀ H' dd, Same Hx H' → H' dd = some (.xd [(fld, y)]) → E (.ref C) (some dd) H') :
    [y].length ≤ 1000 ∧ ∀ a, Hx a = none → spI K C fld (.ref a :: ([y] ++ [])) (upd Hx a (exo a C none))
        (fun v H2 => v = .non ∧ ∃ (d : Addr) (fs : List (Str × V)), H2 a = some (exo a C (some d)) ∧ H2 d = some (exd d fs) ∧ Hx d = none ∧ E (.ref C) (some d) (upd (del H2 a) d (.xd fs))) (fun _ _ _ => False) := by
  refine ⟨by show 1 ≤ 1000; decide, fun a na => ⟨a, y, rfl, T.oex, T.noN, upd_same, fun dx nd ne => ⟨rfl, dx, [(fld, y)], ?_⟩⟩⟩
  obtain ⟨m1, m2, m3, m4⟩ := madeF (y := y) (fld := fld) na nd ne
  exact ⟨m1, m2, m3, q _ dx m4 upd_same⟩
section
variable {X : Cx} {CX : CXT} {k : Nat} {f : Addr} {sp : Sp} {E : XK} {x : Str} {p pos : Pos} {e : Expr} {es : List Expr} {t : TA}
theorem pe_callR (F : FnR X.prog X.w X.K X.mg X.base CX k f sp) (hr : Room k X.A) (hk : PySem.W.keepIn X.K (.ref f) = true) (hg : Gl X x) (hm : X.mg x = some (.ref f)) (hx : Passes CX X E) (ha : PA X (e :: es) t) (hd : (x == ("__debug__" : Str)) = false := by decide)
    (he : starEach (e :: es) X.env = (false, eval e X.env) :: starEach es X.env := by rfl) (hpl : (backTo pos (starEach es X.env)).any (·.1) = false := by rfl) :
    PE X (.Call (.Name x p) (e :: es) [] pos) (fun σ H Q => t σ H fun vs H1 => sp vs H1 Q E) := by
  refine ⟨fun pins s σ H Q I h => ?_⟩
  refine wpAny_Call_Name_kw (ld_glob I hg hm ?_ hd)
  refine PySem.W.callWith_K (h₀ := X.base) I.ok.mod.kin hk (thn (ha.run pos pins s σ H _ I h) fun us s1 ⟨vs, H1, I1, r, q⟩ => ⟨I1.kIn, ?_⟩) he hpl
  exact wpAny_call (run_fnR F hr hx I1 r q)
/-- the same with a wish for what it may raise -/
theorem pe_callRS {E : L2.St → XK} (F : FnR X.prog X.w X.K X.mg X.base CX k f sp) (hr : Room k X.A) (hk : PySem.W.keepIn X.K (.ref f) = true) (hg : Gl X x) (hm : X.mg x = some (.ref f)) (hx : ∀ σ, PassesAt CX X σ (E σ)) (ha : PA X (e :: es) t) (hd : (x == ("__debug__" : Str)) = false := by decide)
    (he : starEach (e :: es) X.env = (false, eval e X.env) :: starEach es X.env := by rfl) (hpl : (backTo pos (starEach es X.env)).any (·.1) = false := by rfl) :
    PE X (.Call (.Name x p) (e :: es) [] pos) (tCallS sp E t) := by
  refine ⟨fun pins s σ H Q I h => ?_⟩
  refine wpAny_Call_Name_kw (ld_glob I hg hm ?_ hd)
  refine PySem.W.callWith_K (h₀ := X.base) I.ok.mod.kin hk (thn (ha.run pos pins s σ H _ I h) fun us s1 ⟨vs, H1, I1, r, q⟩ => ⟨I1.kIn, ?_⟩) he hpl
  refine wpAny_call (codeAny_mono (F X.A X.stack s1 H1 us vs Q (E σ) hr I1.env0 r q) fun r s' hq => ?_)
  cases r with
  | error e => exact hx σ pins H1 s1 e s' I1 hq
  | ok fl =>
    cases fl with
    | ret u => exact I1.after hq
    | next => exact False.elim hq
    | brk => exact False.elim hq
    | cont => exact False.elim hq
end
end Pr
/-! Panels as data; objects that change. -/
namespace Pr
open PySem PySem.Spec PyProof.Rows L2
section
variable {K : PySem.W.Frag} {H H' : Hp} {pan : List (List Int)}
theorem panT_dp {v : V} (h : Dp K H v (dPan pan)) : ∃ p, v = .ref p ∧ PanT K H p pan := by
  obtain ⟨p, xs, rfl, hq, hr⟩ := h.tupI
  have : ∀ (xs : List V) (pan : List (List Int)), DpAll K H xs (pan.map dInts) → ∃ qs : List Addr, xs = qs.map V.ref ∧ Paired (fun q l => SqT K H q (l.map V.int)) qs pan := by
    intro xs pan
    induction pan generalizing xs with
    | nil => intro h; cases h; exact ⟨[], rfl, .nil⟩
    | cons l pan ih =>
      intro h
      cases h with
      | cons h1 h2 =>
        obtain ⟨q, rfl, hq⟩ := h1.intsI
        obtain ⟨qs, rfl, hqs⟩ := ih _ h2
        exact ⟨q :: qs, rfl, .cons hq hqs⟩
  obtain ⟨qs, rfl, hqs⟩ := this xs pan hr
  exact ⟨p, rfl, qs, hq, hqs⟩
theorem dq_panT {N : Addr → Prop} {p : Addr} (h : PanT K H p pan) : Dq K N H (.ref p) (dPan pan) := by
  obtain ⟨qs, h1, h2⟩ := h
  refine .tup h1 ?_
  have : ∀ {qs : List Addr} {pan : List (List Int)}, Paired (fun q l => SqT K H q (l.map V.int)) qs pan → DqAll K N H (qs.map V.ref) (pan.map dInts) := fun h => by
    induction h with
    | nil => exact .nil
    | cons a b ih => exact .cons (dq_ints a) ih
  exact this h2
end
theorem asc_from {n : Int} : ∀ {l : List Int} {b : Int}, l.Pairwise (· < ·) → (∀ x ∈ l, b < x ∧ 0 ≤ x ∧ x < n) → ascFrom n b (l.map PyData.int) = true
  | [], _, _, _ => rfl
  | x :: l, b, up, h => by
    rw [List.pairwise_cons] at up
    have hx := h x List.mem_cons_self
    have ih := asc_from (n := n) (b := x) up.2 fun y hy => ⟨up.1 y hy, (h y (List.mem_cons_of_mem _ hy)).2⟩
    show (decide (0 ≤ x) && decide (x < n) && decide (b < x) && ascFrom n x (l.map PyData.int)) = true
    rw [ih, decide_eq_true hx.1, decide_eq_true hx.2.1, decide_eq_true hx.2.2]; rfl
theorem err_from {n : Int} : ∀ (pan : List (List Int)) (k : Nat), (∀ l ∈ pan, l.Pairwise (· < ·) ∧ ∀ x ∈ l, 0 ≤ x ∧ x < n) → (∀ (j : Nat) (l : List Int), pan[j]? = some l → ((k + j : Nat) : Int) ∉ l) → errFrom n k (pan.map dInts) = .none
  | [], _, _, _ => rfl
  | l :: pan, k, h1, h2 => by
    have a := h1 l List.mem_cons_self
    have b := h2 0 l rfl
    have ih := err_from pan (k + 1) (fun m hm => h1 m (List.mem_cons_of_mem _ hm)) fun j m hj => by
      have := h2 (j + 1) m hj
      rw [show k + 1 + j = k + (j + 1) by omega]; exact this
    show (if btnT n (dInts l) then (if hasInt (k : Int) (dInts l) then dErr (.int (k : Int)) "itself" else errFrom n (k + 1) (pan.map dInts)) else dErr (.int (k : Int)) "list") = .none
    have e1 : btnT n (dInts l) = true := asc_from a.1 fun x hx => ⟨by have := a.2 x hx; omega, a.2 x hx⟩
    have e2 : hasInt (k : Int) (dInts l) = false := by
      show ((l.map PyData.int).any fun d => match d with | .int i => decide (i = (k : Int)) | _ => false) = false
      rw [List.any_map, List.any_eq_false]
      intro x hx
      simp only [Function.comp, decide_eq_true_eq]
      rintro rfl
      exact b (by simpa using hx)
    rw [e1, e2, if_pos rfl, if_neg Bool.false_ne_true, ih]
theorem err_good {pan : List (List Int)} (g : Good pan) : errD (dPan pan) = .none := by
  show (if 1 ≤ (pan.map dInts).length ∧ (pan.map dInts).length ≤ 10 then errFrom ((pan.map dInts).length : Int) 0 (pan.map dInts) else dErr .none "panel") = .none
  rw [List.length_map, if_pos ⟨g.pos, g.few⟩]
  exact err_from pan 0 (fun l hl => ⟨g.up l hl, g.rng l hl⟩) fun j l hj => by rw [Nat.zero_add]; exact g.own j l hj
/-- all but the object at g stands as before -/
def ButO (g : Addr) (H H' : Hp) : Prop := ∀ b o, b ≠ g → H b = some o → H' b = some o
theorem ButO.refl (g : Addr) (H : Hp) : ButO g H H := fun _ _ _ e => e
theorem ButO.of {g : Addr} {H H' : Hp} (s : Same H H') : ButO g H H' := fun b o _ e => s b o e
theorem ButO.trans {g : Addr} {H H1 H2 : Hp} (x : ButO g H H1) (y : ButO g H1 H2) : ButO g H H2 := fun b o n e => y b o n (x b o n e)
theorem ButO.upd {g : Addr} {H : Hp} {o : HO} : ButO g H (upd H g o) := fun b o' n e => by rw [upd_ne n]; exact e
theorem ButO.kp {g C dx : Addr} {fs : List (Str × V)} {H H' : Hp} (h : H g = some (.ins C dx fs)) (b : ButO g H H') : Kp H H' :=
  ⟨fun p xs e => b _ _ (ne_of e h (by intro z; cases z)) e, fun p o u e => b _ _ (ne_of e h (by intro z; cases z)) e⟩
theorem ButO.deck {g C dx a c : Addr} {m : Nat} {fs : List (Str × V)} {H H' : Hp} (h : H g = some (.ins C dx fs)) (b : ButO g H H') (D : Deck H a c m) : Deck H' a c m := by
  obtain ⟨cs, k, h1, h2, h3⟩ := D
  exact ⟨cs, k, b _ _ (ne_of h1 h (by intro z; cases z)) h1, b _ _ (ne_of h2 h (by intro z; cases z)) h2, h3⟩
theorem PanT.kp {K : PySem.W.Frag} {H H' : Hp} {p : Addr} {pan : List (List Int)} (k : Kp H H') (h : PanT K H p pan) : PanT K H' p pan := by
  obtain ⟨p', e, h'⟩ := panT_dp (h.dp.kp k (lf_pan _))
  cases e; exact h'
end Pr
/-! Texts of panels read. -/
namespace Pr
open PySem PySem.Spec PyProof.Rows L2
/-! ### numbers of any size -/
theorem head_num : ∀ n : Nat, 1 ≤ n → (TL.numL n).head? ≠ some 48 := by
  intro n
  induction n using Nat.strongRecOn with
  | _ n ih =>
    intro h
    by_cases h10 : n < 10
    · rw [TL.numL_lt h10]
      intro z
      have : 48 + n = 48 := Option.some.inj z
      omega
    · rw [TL.numL_step (by omega)]
      have h1 := ih (n / 10) (by omega) (by omega)
      have h2 := TL.numL_ne (n / 10)
      cases e : TL.numL (n / 10) with
      | nil => exact absurd e h2
      | cons a r => rw [e] at h1; exact h1
theorem isNum_all (n : Nat) : isNumL (TL.numL n) = true := by
  by_cases h : n < 10
  · exact isNum_lt h
  · unfold isNumL
    simp only [Bool.and_eq_true, Bool.or_eq_true, List.all_eq_true, decide_eq_true_eq]
    refine ⟨⟨?_, fun c hc => TL.numL_digits n c hc⟩, .inl (head_num n (by omega))⟩
    cases e : TL.numL n with
    | nil => exact absurd e (TL.numL_ne n)
    | cons a r => rfl
theorem numW_num (n : Nat) : numW (numT (n : Int)) = some n := by
  unfold numW
  rw [numT_tl, if_pos (isNum_all n), TL.numL_val]
theorem numT_inj {a b : Nat} (h : numT (a : Int) = numT (b : Int)) : a = b := by
  have := congrArg TL.tl h
  rw [numT_tl, numT_tl] at this
  exact TL.numL_inj this
theorem okB_iffG {m : Nat} {x : Str} {b : Nat} : okB m x = some b ↔ b < m ∧ x = numT (b : Int) := by
  unfold okB
  constructor
  · intro h
    cases e : numW x with
    | none => rw [e] at h; cases h
    | some n =>
      rw [e] at h
      replace h : (if n < m then some n else none) = some b := h
      split at h
      · injection h with h; subst h
        rename_i hn
        exact ⟨hn, numW_is e⟩
      · cases h
  · rintro ⟨h, rfl⟩
    rw [numW_num]
    exact if_pos h
theorem kvsB_newG (m : Nat) : (kvsB m).any (fun kv => decide (kv.1 = Sum.inr (numT (m : Int)))) = false := by
  rw [List.any_eq_false]
  intro kv hkv e
  unfold kvsB at hkv
  obtain ⟨b, hb, rfl⟩ := List.mem_map.mp hkv
  have hb := List.mem_range.mp hb
  have e := of_decide_eq_true e
  injection e with e
  have := numT_inj e
  omega
theorem valV_kvsG (m : Nat) (x : Str) : valV (kvsB m) (Sum.inr x) = (okB m x).map fun b : Nat => V.int (b : Int) := by
  unfold valV
  cases e : okB m x with
  | none =>
    have : (kvsB m).find? (fun kv => decide (kv.1 = Sum.inr x)) = none := by
      rw [List.find?_eq_none]
      intro kv hkv z
      unfold kvsB at hkv
      obtain ⟨b, hb, rfl⟩ := List.mem_map.mp hkv
      have z := of_decide_eq_true z
      injection z with z
      have : okB m x = some b := okB_iffG.mpr ⟨List.mem_range.mp hb, z.symm⟩
      rw [e] at this; cases this
    rw [this]; rfl
  | some b =>
    obtain ⟨hb, rfl⟩ := okB_iffG.mp e
    have : (kvsB m).find? (fun kv => decide (kv.1 = Sum.inr (numT (b : Int)))) = some (Sum.inr (numT (b : Int)), V.int (b : Int)) := by
      rw [List.find?_eq_some_iff_append]
      refine ⟨decide_eq_true rfl, kvsB b, ((List.range m).drop (b + 1)).map fun b : Nat => (Sum.inr (numT (b : Int)), V.int (b : Int)), ?_, fun kv hkv => ?_⟩
      · unfold kvsB
        have h1 : List.range m = List.range b ++ (b :: (List.range m).drop (b + 1)) := by
          have h2 : (List.range m).drop b = b :: (List.range m).drop (b + 1) := by
            rw [List.drop_eq_getElem_cons (by rw [List.length_range]; exact hb), List.getElem_range]
          have h3 : (List.range m).take b = List.range b := by rw [List.take_range, Nat.min_eq_left (Nat.le_of_lt hb)]
          rw [← h2, ← h3, List.take_append_drop]
        conv => lhs; rw [h1]
        rw [List.map_append, List.map_cons]
      · have := List.any_eq_false.mp (kvsB_newG b) kv hkv
        simpa using this
    rw [this]; rfl

/-! ### the list of a word -/
/-- the parts behind the sign -/
def partsR (r : Str) : List Str := if r = ("" : Str) then [] else Txt.split r ("," : Str)
def okL (m i : Nat) (fs : List Str) : Bool := fs.all (fun z => (okB m z).isSome) && decide ((valsB m fs).Pairwise (· < ·)) && !decide ((i : Int) ∈ valsB m fs)
def lstW (m i : Nat) (x : Str) : Option (List Int) :=
  if Txt.find x (">" : Str) < 0 then none else if cutS x none (some (Txt.find x (">" : Str))) ≠ numT (i : Int) then none
  else if okL m i (partsR (cutS x (some (Txt.find x (">" : Str) + 1)) none)) = true then some (valsB m (partsR (cutS x (some (Txt.find x (">" : Str) + 1)) none))) else none
def dL : Option (List Int) → PyData
  | some l => dInts l
  | none => .none
theorem cut_take (x : Str) (k : Nat) : TL.tl (cutS x none (some (k : Int))) = (TL.tl x).take k := by
  show ((TL.tl x).drop (HT.sIx x.length 0 none)).take (HT.sIx x.length x.length (some (k : Int)) - HT.sIx x.length 0 none) = _
  rw [HT.sIx_none, List.drop_zero, Nat.sub_zero, HT.sIx_nat, TL.len_tl]
  by_cases h : k ≤ (TL.tl x).length
  · rw [Nat.min_eq_left h]
  · rw [Nat.min_eq_right (by omega), List.take_of_length_le (Nat.le_refl _), List.take_of_length_le (by omega)]
theorem cut_drop (x : Str) (k : Nat) : TL.tl (cutS x (some (k : Int)) none) = (TL.tl x).drop k := by
  show ((TL.tl x).drop (HT.sIx x.length 0 (some (k : Int)))).take (HT.sIx x.length x.length none - HT.sIx x.length 0 (some (k : Int))) = _
  rw [HT.sIx_none, HT.sIx_nat, TL.len_tl]
  by_cases h : k ≤ (TL.tl x).length
  · rw [Nat.min_eq_left h, List.take_of_length_le (by rw [List.length_drop]; omega)]
  · rw [Nat.min_eq_right (by omega), List.drop_eq_nil_of_le (Nat.le_refl _), List.drop_eq_nil_of_le (show (TL.tl x).length ≤ k by omega)]
    simp
/-- what partition gives, by find -/
theorem part_find (x : Str) : (Txt.find x (">" : Str) < 0 ∧ Txt.partition x (">" : Str) = (x, Str.empty, Str.empty)) ∨
    ∃ k : Nat, Txt.find x (">" : Str) = (k : Int) ∧ Txt.partition x (">" : Str) = (cutS x none (some (k : Int)), (">" : Str), cutS x (some ((k : Int) + 1)) none) := by
  have h62 : (">" : Str).length = 1 := by decide +kernel
  rcases PyProof.Rows.partition_whole x (">" : Str) with ⟨e, hn⟩ | ⟨i, e, hi, hn⟩
  · refine .inl ⟨?_, e⟩
    rcases PyProof.Rows.find_whole x (">" : Str) with ⟨f, _⟩ | ⟨j, f, hj, _⟩
    · rw [f]; decide
    · exact absurd hj (hn j)
  · refine .inr ⟨i, ?_, ?_⟩
    · rcases PyProof.Rows.find_whole x (">" : Str) with ⟨f, hf⟩ | ⟨j, f, hj, hf⟩
      · exact absurd hi (hf i)
      · rw [f]
        have : i = j := by
          rcases Nat.lt_trichotomy i j with h | h | h
          · exact absurd hi (hf i h)
          · exact h
          · exact absurd hj (hn j h)
        rw [this]
    · rw [e]
      have e1 : PySem.Builtin.Str.strSub x 0 i = cutS x none (some (i : Int)) := TL.ext_tl (by rw [TL.tl_strSub, List.drop_zero, Nat.sub_zero, cut_take])
      have e2 : PySem.Builtin.Str.strSub x (i + (">" : Str).length) x.length = cutS x (some ((i : Int) + 1)) none := TL.ext_tl (by
        rw [TL.tl_strSub_end, h62, show (i : Int) + 1 = ((i + 1 : Nat) : Int) by omega, cut_drop])
      rw [e1, e2]
def dB (m : Nat) (z : Str) : PyData := match okB m z with | some b => .int (b : Int) | none => .none
theorem lf_dB (m : Nat) (z : Str) : lf (dB m z) = true := by unfold dB; cases okB m z <;> rfl
theorem dB_vals {m : Nat} {fs : List Str} (h : fs.all (fun z => (okB m z).isSome) = true) : fs.map (dB m) = (valsB m fs).map PyData.int := by
  unfold valsB
  rw [List.map_map]
  refine List.map_congr_left fun z hz => ?_
  have := List.all_eq_true.mp h z hz
  unfold dB
  cases e : okB m z with
  | none => rw [e] at this; cases this
  | some b => show PyData.int (b : Int) = .int (((okB m z).getD 0 : Nat) : Int); rw [e]; rfl
theorem vals_rng {m : Nat} {fs : List Str} (h : fs.all (fun z => (okB m z).isSome) = true) : ∀ y ∈ valsB m fs, 0 ≤ y ∧ y < (m : Int) := fun y hy => by
  unfold valsB at hy
  obtain ⟨z, hz, rfl⟩ := List.mem_map.mp hy
  have := List.all_eq_true.mp h z hz
  cases e : okB m z with
  | none => rw [e] at this; cases this
  | some b =>
    have := (okB_iffG.mp e).1
    show 0 ≤ (b : Int) ∧ (b : Int) < _
    omega
theorem btnT_parts (m : Nat) (fs : List Str) : btnT (m : Int) (.tuple (fs.map (dB m))) = (fs.all (fun z => (okB m z).isSome) && decide ((valsB m fs).Pairwise (· < ·))) := by
  show ascFrom (m : Int) (-1) (fs.map (dB m)) = _
  rw [Bool.eq_iff_iff, Bool.and_eq_true, decide_eq_true_eq]
  constructor
  · intro h
    obtain ⟨ns, e, hp, hr⟩ := ascFrom_ints h
    have hall : fs.all (fun z => (okB m z).isSome) = true := by
      rw [List.all_eq_true]
      intro z hz
      have : dB m z ∈ ns.map PyData.int := by rw [← e]; exact List.mem_map_of_mem hz
      obtain ⟨k, _, hk⟩ := List.mem_map.mp this
      unfold dB at hk
      cases e2 : okB m z with
      | none => rw [e2] at hk; cases hk
      | some b => rfl
    refine ⟨hall, ?_⟩
    rw [dB_vals hall] at e
    have : valsB m fs = ns := by
      have inj : ∀ (a b : List Int), a.map PyData.int = b.map PyData.int → a = b := by
        intro a
        induction a with
        | nil => intro b h; cases b with | nil => rfl | cons x r => cases h
        | cons x r ih => intro b h; cases b with | nil => cases h | cons y s => injection h with h1 h2; injection h1 with h1; rw [h1, ih s h2]
      exact inj _ _ e
    rw [this]; exact hp
  · rintro ⟨hall, hp⟩
    rw [dB_vals hall]
    exact ascFrom_of hp fun x hx => by have := vals_rng hall x hx; omega

/-! ### the panel of a text -/
def badP (m : Nat) : Nat → List Str → Option Nat
  | _, [] => none
  | i, x :: r => if lstW m i x = none ∨ i = 10 then some i else badP m (i + 1) r
def okP (m i : Nat) (x : Str) : Prop := ¬ (lstW m i x = none ∨ i = 10)
theorem badP_drop {m : Nat} {ws : List Str} : ∀ {k : Nat}, k ≤ ws.length → (∀ j x, j < k → ws[j]? = some x → okP m j x) → badP m 0 ws = badP m k (ws.drop k) := by
  intro k
  induction k with
  | zero => intro _ _; rfl
  | succ k ih =>
    intro hk h
    rw [ih (by omega) fun j x hj hx => h j x (by omega) hx, List.drop_eq_getElem_cons (by omega)]
    have := h k ws[k] (by omega) (List.getElem?_eq_getElem (by omega))
    exact if_neg this
theorem badP_all {m : Nat} {ws : List Str} (h : ∀ j x, ws[j]? = some x → okP m j x) : badP m 0 ws = none := by
  rw [badP_drop (Nat.le_refl _) fun j x _ hx => h j x hx, List.drop_length]; rfl
theorem badP_at {m k : Nat} {ws : List Str} {x : Str} (hx : ws[k]? = some x) (h : ∀ j x, j < k → ws[j]? = some x → okP m j x) (b : lstW m k x = none ∨ k = 10) : badP m 0 ws = some k := by
  have hk := (List.getElem?_eq_some_iff.mp hx)
  obtain ⟨hk, e⟩ := hk
  rw [badP_drop (Nat.le_of_lt hk) h, List.drop_eq_getElem_cons hk, e]
  exact if_pos b
def valsP (m : Nat) (ws : List Str) : List (List Int) := ws.zipIdx.map fun x => (lstW m x.2 x.1).getD []
theorem valsP_take {m k : Nat} {ws : List Str} {x : Str} (hx : ws[k]? = some x) : valsP m (ws.take (k + 1)) = valsP m (ws.take k) ++ [(lstW m k x).getD []] := by
  unfold valsP
  rw [List.take_add_one, hx, Option.toList_some, List.zipIdx_append, List.map_append]
  have hk := (List.getElem?_eq_some_iff.mp hx).1
  have : (ws.take k).length = k := by rw [List.length_take]; omega
  simp [this]
def resPM (x : Str) : PyData := match badP (Txt.split x (" " : Str)).length 0 (Txt.split x (" " : Str)) with | some i => .list [.int (i : Int)] | none => dPan (valsP (Txt.split x (" " : Str)).length (Txt.split x (" " : Str)))
def resP : PyData → PyData
  | .str x => resPM x
  | _ => .list [.none]
end Pr
/-! Lists of things that are no data: their length, items, whether they are empty. -/
namespace Pr
open PySem PySem.Spec PyProof.Rows L2
section
variable {K : PySem.W.Frag} {σ : L2.St} {H : Hp} {d : PyData} {i j : Nat} {S : Addr} {xs : List V} {v : V}
theorem gv_lenL1 (hi : σ[i]? = some (some (.ref S))) (e : H S = some (.lst xs)) : Gv K (tCB (rLenG K) (tCons (tVar i) tNil)) σ H (.int xs.length) := fun H1 s Q q =>
  ⟨.ref S, hi, S, xs, rfl, .inl (.inl (.inl (s _ _ e))), q _ H1 (Same.refl _) (.int _)⟩
theorem gv_ixLr {k : Nat} (hi : σ[i]? = some (some (.ref S))) (hj : σ[j]? = some (some (.int (k : Int)))) (e : H S = some (.lst xs)) (hx : xs[k]? = some v) (dv : Dp K H v d) : Gv K (tOp (rIxL K) (tVar i) (tVar j)) σ H d := fun H1 s Q q =>
  ⟨.ref S, hi, .int (k : Int), hj, S, xs, (k : Int), v, rfl, rfl, .inl (.inl (s _ _ e)), atI_nat hx, q _ H1 (Same.refl _) (dv.sm s)⟩
theorem gv_ixLc {k : Nat} (hi : σ[i]? = some (some (.ref S))) (e : H S = some (.lst xs)) (hx : xs[k]? = some v) (dv : Dp K H v d) : Gv K (tOp (rIxL K) (tVar i) (tC (.int (k : Int)))) σ H d := fun H1 s Q q =>
  ⟨.ref S, hi, S, xs, (k : Int), v, rfl, rfl, .inl (.inl (s _ _ e)), atI_nat hx, q _ H1 (Same.refl _) (dv.sm s)⟩
theorem at_lastH {l : List V} {v : V} : atI (l ++ [v]) (-1) = some v := by
  have e : ixN (l ++ [v]).length (-1) = some l.length := by
    unfold ixN
    rw [List.length_append]
    show (if (0 : Int) ≤ -1 then _ else _) = _
    rw [if_neg (by decide)]
    simp
    omega
  unfold atI
  rw [e]
  show (l ++ [v])[l.length]? = some v
  simp
theorem gv_lastL {r : V → Hp → VK → Prop} {us : List V} (hr : r = rU fun i => V.int (-i)) (hi : σ[i]? = some (some (.ref S))) (e : H S = some (.lst (us ++ [v]))) (dv : Dp K H v d) : Gv K (tOp (rIxL K) (tVar i) (tUn r (tC (.int 1)))) σ H d := by
  subst hr
  exact fun H1 s Q q => ⟨.ref S, hi, 1, rfl, S, _, _, v, rfl, rfl, .inl (.inl (s _ _ e)), at_lastH, q _ H1 (Same.refl _) (dv.sm s)⟩
theorem gvt_neE (hi : σ[i]? = some (some (.ref S))) (e : H S = some (.lst xs)) : GvT (tTest (tOp rNeE1 (tVar i) (tLst tNil))) σ H (!xs.isEmpty) := fun H1 s Q q =>
  ⟨.ref S, hi, Nat.zero_le _, fun L nL => ⟨S, L, xs, rfl, rfl, same_new nL _ _ (s _ _ e), upd_same, _, rfl, q _ (same_new nL)⟩⟩
end
end Pr
/-! a dict that only says what is known; a search that stops at its goal. -/
namespace Pr
open PySem PySem.Spec PyProof.Rows L2
/-- the dict of the things known -/
def DictU (H : Hp) (d : Addr) (L : BL (List Key)) : Prop := ∃ vs : List V, vs.length = L.length ∧ H d = some (.dT ((L.map (·.1)).zip vs))
theorem DictU.same {H H' : Hp} {d : Addr} {L : BL (List Key)} (h : DictU H d L) (s : Same H H') : DictU H' d L := let ⟨vs, l, e⟩ := h; ⟨vs, l, s _ _ e⟩
theorem DictU.none {H : Hp} {d a : Addr} {L : BL (List Key)} {k : List Key} (h : DictU H d L) (hk : k ∉ L.map (·.1)) (ea : H a = some (.tup (k.map kV))) : DGet H d (.ref a) none := by
  obtain ⟨vs, l, e⟩ := h
  have := DGet.t (k := k) e ea
  rwa [val_zip_none hk] at this
theorem DictU.some {H : Hp} {d a : Addr} {L : BL (List Key)} {k : List Key} (h : DictU H d L) (nd : (L.map (·.1)).Nodup) (hk : k ∈ L.map (·.1)) (ea : H a = some (.tup (k.map kV))) : ∃ v, DGet H d (.ref a) (some v) := by
  obtain ⟨vs, l, e⟩ := h
  obtain ⟨i, hi⟩ := List.getElem?_of_mem hk
  have hl : i < vs.length := by
    have := (List.getElem?_eq_some_iff.mp hi).1
    rw [List.length_map] at this; omega
  refine ⟨vs[i], ?_⟩
  have := DGet.t (k := k) e ea
  rwa [val_zip nd hi (List.getElem?_eq_getElem hl)] at this
theorem DictU.put {H : Hp} {d a : Addr} {L : BL (List Key)} {k : List Key} {r : List Int} {v : V} (h : DictU H d L) (hk : k ∉ L.map (·.1)) (ea : H a = .some (.tup (k.map kV))) (hl : L.length < 100000) :
    ∃ H', DPut H d (.ref a) v H' ∧ DictU H' d (L ++ [(k, r)]) ∧ Kp H H' ∧ ∀ b o, b ≠ d → H b = .some o → H' b = .some o := by
  obtain ⟨vs, lv, e⟩ := h
  refine ⟨_, DPut.t (k := k) (v := v) e ea (by rw [List.length_zip, List.length_map, lv, Nat.min_self]; exact small5 (by omega)), ?_, kp_dT e, fun b o hb eb => by rw [upd_ne hb]; exact eb⟩
  rw [putK_new v (val_zip_none hk)]
  refine ⟨vs ++ [v], by rw [List.length_append, List.length_append, lv]; rfl, ?_⟩
  rw [upd_same, List.map_append, List.zip_append (by rw [List.length_map, lv])]; rfl
/-- what stands in the list of a search: the row and the thing -/
def WayAt (K : PySem.W.Frag) (H : Hp) (a : Addr) (x : List Key × List Int) : Prop := ∃ r t : Addr, H a = some (.tup [.ref r, .ref t]) ∧ SqT K H r (x.2.map V.int) ∧ H t = some (.tup (x.1.map kV))
theorem WayAt.same {K : PySem.W.Frag} {H H' : Hp} {a : Addr} {x : List Key × List Int} (h : WayAt K H a x) (s : Same H H') : WayAt K H' a x := let ⟨r, t, e1, e2, e3⟩ := h; ⟨r, t, s _ _ e1, same_sqT s e2, s _ _ e3⟩
theorem WayAt.kp {K : PySem.W.Frag} {H H' : Hp} {a : Addr} {x : List Key × List Int} (h : WayAt K H a x) (k : Kp H H') : WayAt K H' a x := let ⟨r, t, e1, e2, e3⟩ := h; ⟨r, t, k.1 _ _ e1, sqT_kp k e2, k.1 _ _ e3⟩
theorem find_pre {L L' : BL (List Key)} (p : L <+: L') {i : Nat} {x : List Key × List Int} (hi : L[i]? = some x) (nd : (L'.map (·.1)).Nodup) : L'.find? (fun y => decide (y.1 = x.1)) = some x := by
  obtain ⟨t, rfl⟩ := p
  have hm : x ∈ L ++ t := List.mem_append_left _ (List.mem_of_getElem? hi)
  generalize L ++ t = M at nd hm
  clear hi
  induction M with
  | nil => cases hm
  | cons y r ih =>
    rw [List.map_cons, List.nodup_cons] at nd
    rw [List.find?_cons]
    rcases List.mem_cons.mp hm with rfl | hm
    · rw [decide_eq_true rfl]
    · have : y.1 ≠ x.1 := fun z => nd.1 (by rw [z]; exact List.mem_map_of_mem hm)
      rw [decide_eq_false this]
      exact ih nd.2 hm
theorem way_hit {L L' : BL (List Key)} (p : L <+: L') {i : Nat} {x : List Key × List Int} (hi : L[i]? = some x) (nd : (L'.map (·.1)).Nodup) : wayOf L' x.1 = dInts x.2 := by
  unfold wayOf
  rw [find_pre p hi nd]
theorem way_miss {L : BL (List Key)} {k : List Key} (h : ∀ x ∈ L, x.1 ≠ k) : wayOf L k = .none := by
  unfold wayOf
  rw [List.find?_eq_none.mpr fun x hx => by simpa using h x hx]
theorem eqv_dInts (a b : List Int) : PyData.eqv (dInts a) (dInts b) = decide (a = b) := by
  unfold dInts
  simp only [PyData.eqv]
  exact eqv_intsL a b
/-! ### a comprehension over a list of references -/
section
variable {K : PySem.W.Frag} {σ : L2.St} {H : Hp} {t te : TE} {gs : List Addr}
/-- t gives a list of references -/
def GvRL (t : TE) (σ : L2.St) (H : Hp) (gs : List Addr) : Prop := ∀ H1, Same H H1 → ∀ Q : VK, (∀ a H', Same H1 H' → H' a = some (.lst (gs.map V.ref)) → Q (.ref a) H') → t σ H1 Q
theorem grl_var {j : Nat} {a : Addr} (hj : σ[j]? = some (some (.ref a))) (e : H a = some (.lst (gs.map V.ref))) : GvRL (tVar j) σ H gs := fun H1 s Q q => ⟨.ref a, hj, q a H1 (Same.refl _) (s _ _ e)⟩
theorem grl_rev (h : GvRL t σ H gs) : GvRL (tRevL K t) σ H gs.reverse := fun H1 s Q q => h H1 s _ fun a H2 s2 e => ⟨a, _, rfl, .inl (.inl e), fun p np => q p _ (s2.trans (same_new np)) (by rw [upd_same, List.map_reverse])⟩
theorem gn_lcR {i : Nat} {f : Addr → PyData} (h : GvRL t σ H gs)
    (hb : ∀ a H1, a ∈ gs → Same H H1 → Gv K te ((σ.set i none).set i (some (.ref a))) H1 (f a))
    (hf : ∀ a ∈ gs, lf (f a) = true) (hn : gs.length ≤ 100000) : GvN K (tLc (iList K t) (gName i) tYes te [i]) σ H (gs.map f) := by
  intro H0 s0 Q q
  refine h H0 s0 _ fun a H1 s1 ea => ?_
  refine ⟨a, rfl, ⟨_, .inl (.inl ea)⟩, fun D nD => ?_⟩
  have w : Walk (Itl K a) gs.length (Same H1) (fun i h x h' => Same h h' ∧ ∃ g, gs[i]? = some g ∧ x = .ref g) := by
    have : gs.length = (gs.map V.ref).length := (List.length_map _).symm
    rw [this]
    refine walk_list.mono (fun h e => e.seq (.inl (.inl ea))) fun i h x h' hi e y => ?_
    obtain ⟨rfl, y⟩ := y
    rw [List.getElem?_map] at y
    cases hg : gs[i]? with
    | none => rw [hg] at y; cases y
    | some g => rw [hg] at y; cases y; exact ⟨Same.refl _, g, rfl, rfl⟩
  refine lc_it w (LcP K H1 D fun k => (gs.take k).map f) ⟨fun b o hb e => by rw [upd_ne hb]; exact e, [], upd_same, .nil, Nat.zero_le _⟩ (fun k H2 _ hP b o e => hP.1 b o (ne_of_none e nD) e) (fun k x H2 H3 hk hP hY => ?_) (fun H2 hP => ?_)
  · obtain ⟨s2, acc, eD, hacc, la⟩ := hP
    obtain ⟨s3, g, hg, rfl⟩ := hY
    rw [List.getElem?_eq_getElem hk] at hg
    cases hg
    have sH : Same H H3 := (s0.trans s1).trans fun b o e => s3 _ _ (s2 b o (ne_of_none e nD) e)
    refine ⟨by show ((σ.set i none).set i (some (V.ref gs[k]))).set i none = σ.set i none; rw [List.set_set, List.set_set], tyes ?_⟩
    rw [if_pos rfl]
    refine (hb gs[k] H3 (List.getElem_mem _) sH).at fun y H5 s5 dy => ⟨acc, s5 _ _ (s3 _ _ eD), small5 (by omega), ?_⟩
    refine lcP_yes s2 (s3.trans s5) eD hacc la dy ?_ (lfAll_of fun d hd => ?_)
    · show (gs.take (k + 1)).map f = (gs.take k).map f ++ [f gs[k]]
      rw [List.take_succ_eq_append_getElem hk, List.map_append]; rfl
    · obtain ⟨z, hz, rfl⟩ := List.mem_map.mp hd
      exact hf z (List.mem_of_mem_take hz)
  · obtain ⟨s2, acc, eD, hacc, la⟩ := hP
    replace hacc : DpAll K H2 acc ((gs.take gs.length).map f) := hacc
    rw [List.take_length] at hacc
    exact q _ _ H2 (s1.trans fun b o e => s2 b o (ne_of_none e nD) e) (s1.free nD) eD hacc
end
theorem srt2 {a b : Int} (h : a ≠ b) : srt [a, b] = if a < b then [a, b] else [b, a] := by
  by_cases hl : a < b
  · rw [if_pos hl]
    exact srt_self (by simp [hl])
  · rw [if_neg hl]
    have p : (srt [a, b]).Perm [b, a] := (srt_perm _).trans (List.Perm.swap _ _ _)
    have u := srt_up [a, b]
    have u2 : [b, a].Pairwise (· ≤ ·) := by simp; omega
    exact List.Perm.eq_of_pairwise (fun x y _ _ h1 h2 => Int.le_antisymm h1 h2) u u2 p
end Pr
/-! Texts among what gives data. -/
namespace Pr
open PySem PySem.Spec PyProof.Rows L2
section
variable {K : PySem.W.Frag} {σ : L2.St} {H : Hp} {t ta tb td tl : TE} {x y : Str}
theorem same_sqL {H1 H2 : Hp} {a : Addr} {xs : List V} (s : Same H1 H2) (h : SqL K H1 a xs) : SqL K H2 a xs := s.seq h
/-- the signs of a text -/
theorem gvi_str {R : Hp → Hp → Prop} (h : Gv K t σ H (.str x)) : GvI K R (iStr t) σ H ((TL.tl x).map fun c => PyData.str ⟨#[c]⟩) := fun H1 s Q q => h H1 s _ fun v H2 s2 d2 => by
  cases d2
  refine ⟨x, rfl, q _ _ s2 ?_⟩
  have hl : ((TL.tl x).map fun c => PyData.str ⟨#[c]⟩).length = x.cps.size := by rw [List.length_map]; exact Array.length_toList
  rw [hl]
  refine (walk_str (z := x)).mono (fun _ _ => trivial) fun i h v h' hi _ hy => ?_
  obtain ⟨rfl, c, hc, rfl⟩ := hy
  refine ⟨Same.refl _, .str ⟨#[c]⟩, ?_, .str _⟩
  rw [List.getElem?_map]
  have : (TL.tl x)[i]? = some c := by show x.cps.toList[i]? = some c; rw [Array.getElem?_toList]; exact hc
  rw [this]; rfl
theorem gv_notInSign {c : Nat} {r : R2} (hr : r = fun x y H Q => ∃ (c : Nat) (z : Str), x = .str ⟨#[c]⟩ ∧ y = .str z ∧ Q (.bl (!decide (c ∈ z.cps.toList))) H) (ha : Gv K ta σ H (.str ⟨#[c]⟩)) (hb : Gv K tb σ H (.str y)) :
    Gv K (tOp r ta tb) σ H (.bool (!decide (c ∈ TL.tl y))) := gv_op2 ha hb fun u v H1 Q s hx hy q => by
  subst hr
  cases hx; cases hy
  exact ⟨c, y, rfl, rfl, q _ _ (Same.refl _) (.bl _)⟩
theorem gv_neEL {ds : List PyData} (h : GvN K t σ H ds) : Gv K (tOp rNeE1 t (tLst tNil)) σ H (.bool (!ds.isEmpty)) := fun H1 s Q q => h H1 s _ fun a vs H2 s2 na ea da => by
  refine ⟨Nat.zero_le _, fun p np => ?_⟩
  have sp := same_new (o := HO.lst []) np
  refine ⟨a, p, vs, rfl, rfl, sp _ _ ea, upd_same, ?_⟩
  have : vs.isEmpty = ds.isEmpty := by cases da <;> rfl
  rw [this]
  exact q _ _ (s2.trans sp) (.bl _)
theorem gv_intS {n : Int} {r : List V → Hp → VK → Prop} (hr : r = fun xs H Q => ∃ a n, xs = [.str a] ∧ PySem.intText? a = some n ∧ a.length ≤ 640 ∧ Q (.int n) H) (h : Gv K t σ H (.str x)) (hn : PySem.intText? x = some n) (hl : x.length ≤ 640) : Gv K (tCB r (tCons t tNil)) σ H (.int n) :=
  gv_cb (gva_cons h gva_nil) fun vs H1 Q s hd q => by
    subst hr
    obtain ⟨v, rfl, hv⟩ := dpAll1 hd
    cases hv
    exact ⟨x, n, rfl, hn, hl, q _ _ (Same.refl _) (.int _)⟩
theorem gv_ixS0 {c : Nat} {l : List Nat} (h : Gv K t σ H (.str x)) (hx : TL.tl x = c :: l) (hl : x.length ≤ 1000) : Gv K (tOp rIxS t (tC (.int 0))) σ H (.str ⟨#[c]⟩) := gv_op2 (ta := t) (tb := tC (.int 0)) h (gv_int (i := 0)) fun u v H1 Q s hx' hy q => by
  cases hx'; cases hy
  refine ⟨x, 0, c, rfl, rfl, Nat.le_of_lt (small5 (by omega)), ?_, q _ _ (Same.refl _) (.str _)⟩
  show atI (TL.tl x) 0 = some c
  rw [hx]
  exact atI_nat (j := 0) rfl
theorem dpAll_strG (l : List Str) : DpAll K H (l.map V.str) (l.map PyData.str) := by
  induction l with
  | nil => exact .nil
  | cons a l ih => exact .cons (.str a) ih
theorem gn_split {r : V → List V → Hp → VK → Prop} (hr : r = fun x xs H Q => ∃ a b, x = .str a ∧ xs = [.str b] ∧ (b.length == 0) = false ∧ a.length + 2 ≤ sizeLine ∧ rNewStrs (Txt.split a b) H Q) (h1 : Gv K ta σ H (.str x)) (h2 : Gv K tb σ H (.str y)) (hy : (y.length == 0) = false) (hx : x.length ≤ 10000) :
    GvN K (tM1 r ta tb) σ H ((Txt.split x y).map PyData.str) := fun H1 s Q q => h1 H1 s _ fun v H2 s2 d2 => by
  subst hr
  cases d2
  refine ⟨⟨_, rfl⟩, h2 H2 (s.trans s2) _ fun w H3 s3 d3 => ?_⟩
  cases d3
  refine ⟨x, y, rfl, rfl, hy, Nat.le_of_lt (small5 (by omega)), fun p np => q p _ _ ((s2.trans s3).trans (same_new np)) ((s2.trans s3).free np) upd_same (dpAll_strG _)⟩
theorem sum_le (n : Nat) : ∀ {ys : List Str}, (∀ y ∈ ys, y.length ≤ n) → (ys.map (·.length)).sum ≤ ys.length * n
  | [], _ => Nat.zero_le _
  | x :: r, h => by
    have a1 := h x List.mem_cons_self
    have a2 := sum_le n fun z hz => h z (List.mem_cons_of_mem _ hz)
    rw [List.map_cons, List.sum_cons, List.length_cons, Nat.succ_mul]; omega
theorem gv_joinB {a : Str} {ys : List Str} (h1 : Gv K td σ H (.str a)) (h2 : Gv K tl σ H (.list (ys.map PyData.str))) (hy : ∀ y ∈ ys, y.length ≤ 1500) (hl : ys.length ≤ 2000) (ha : a.length ≤ 1) {r : V → List V → Hp → VK → Prop}
    (hr : r = fun x xs H Q => ∃ a p, ∃ ys : List Str, x = .str a ∧ xs = [.ref p] ∧ (SqL K H p (ys.map V.str) ∨ SqT K H p (ys.map V.str)) ∧ (ys.map (·.length)).sum + ys.length * a.length ≤ 16777216 ∧ Q (.str (Txt.join a ys)) H) :
    Gv K (tM1 r td tl) σ H (.str (Txt.join a ys)) := fun H1 s Q q => h1 H1 s _ fun v H2 s2 d2 => by
  subst hr
  cases d2
  refine ⟨⟨_, rfl⟩, h2 H2 (s.trans s2) _ fun w H3 s3 d3 => ?_⟩
  obtain ⟨p, xs, rfl, hp, hr⟩ := d3.lstI
  rw [dpAll_strJ hr] at hp
  refine ⟨_, p, ys, rfl, rfl, .inl hp, ?_, q _ H3 (s2.trans s3) (.str _)⟩
  have h4 := sum_le 1500 hy
  have h5 : ys.length * a.length ≤ 2000 * 1 := Nat.mul_le_mul hl ha
  have h6 : ys.length * 1500 ≤ 2000 * 1500 := Nat.mul_le_mul_right _ hl
  omega
theorem gv_mulS {n : Nat} (ha : Gv K ta σ H (.str x)) (hb : Gv K tb σ H (.int (n : Int))) (hx : x.length ≤ 1000) (hn : n ≤ 1000) : Gv K (tOp rMulS ta tb) σ H (.str (repT x n)) := gv_op2 ha hb fun u v H1 Q s hu hv q => by
  cases hu; cases hv
  exact ⟨x, n, rfl, rfl, hx, hn, q _ _ (Same.refl _) (.str _)⟩
theorem gn_cutLTo {ds : List PyData} {k : Nat} (h : Gv K t σ H (.list ds)) (hk : Gv K tb σ H (.int (k : Int))) (hl : k ≤ ds.length) : GvN K (tSl (rSlL K) t tNoPart (tPart tb)) σ H (ds.take k) := fun H1 s Q q => h H1 s _ fun v H2 s2 dv => hk H2 (s.trans s2) _ fun vk H3 s3 dk => by
  cases dk
  obtain ⟨a, xs, rfl, ha, hr⟩ := dv.lstI
  refine ⟨(k : Int), rfl, a, xs, rfl, same_sqL s3 ha, fun p np => ?_⟩
  have sp := same_new (o := HO.lst (cutV xs none (some (k : Int)))) np
  refine q p _ _ ((s2.trans s3).trans sp) ((s2.trans s3).free np) upd_same ?_
  have := cut_dp ((hr.sm s3).sm sp) none (some (k : Int))
  rw [HT.sIx_none, HT.sIx_nat, Nat.min_eq_left hl, List.drop_zero, Nat.sub_zero] at this
  exact this
theorem gn_cutLFrom {ds : List PyData} {k : Nat} (h : Gv K t σ H (.list ds)) (hk : Gv K tb σ H (.int (k : Int))) (hl : k ≤ ds.length) : GvN K (tSl (rSlL K) t (tPart tb) tNoPart) σ H (ds.drop k) := fun H1 s Q q => h H1 s _ fun v H2 s2 dv => hk H2 (s.trans s2) _ fun vk H3 s3 dk => by
  cases dk
  obtain ⟨a, xs, rfl, ha, hr⟩ := dv.lstI
  refine ⟨(k : Int), rfl, a, xs, rfl, same_sqL s3 ha, fun p np => ?_⟩
  have sp := same_new (o := HO.lst (cutV xs (some (k : Int)) none)) np
  refine q p _ _ ((s2.trans s3).trans sp) ((s2.trans s3).free np) upd_same ?_
  have := cut_dp ((hr.sm s3).sm sp) (some (k : Int)) none
  rw [HT.sIx_none, HT.sIx_nat, Nat.min_eq_left hl, List.take_of_length_le (by rw [List.length_drop]; omega)] at this
  exact this
/-- text[:k], text[k:] -/
theorem gv_cutST {k : Int} (h : Gv K t σ H (.str x)) (hk : Gv K tb σ H (.int k)) (hx : x.length ≤ 10000) : Gv K (tSl L2.rSlS t tNoPart (tPart tb)) σ H (.str (cutS x none (some k))) := fun H1 s Q q => h H1 s _ fun v H2 s2 d2 => by
  cases d2
  refine hk H2 (s.trans s2) _ fun w H3 s3 d3 => ?_
  cases d3
  exact ⟨k, rfl, x, rfl, Nat.le_of_lt (small5 (by omega)), q _ H3 (s2.trans s3) (.str _)⟩
theorem gv_cutSF {k : Int} (h : Gv K t σ H (.str x)) (hk : Gv K tb σ H (.int k)) (hx : x.length ≤ 10000) : Gv K (tSl L2.rSlS t (tPart tb) tNoPart) σ H (.str (cutS x (some k) none)) := fun H1 s Q q => h H1 s _ fun v H2 s2 d2 => by
  cases d2
  refine hk H2 (s.trans s2) _ fun w H3 s3 d3 => ?_
  cases d3
  exact ⟨k, rfl, x, rfl, Nat.le_of_lt (small5 (by omega)), q _ H3 (s2.trans s3) (.str _)⟩
end
end Pr
/-! xs[k::4] of a list: a new list, its values out of the list. -/
namespace Pr
open PySem PySem.Spec PyProof.Rows L2
theorem vals_pick {xs : List V} {its : List Value} (r : Vals xs its) : ∀ ix : List Nat, Vals (ix.filterMap (xs[·]?)) (ix.filterMap (its[·]?))
  | [] => .nil
  | i :: ix => by
    have ih := vals_pick r ix
    rw [List.filterMap_cons, List.filterMap_cons]
    cases e : xs[i]? with
    | none => rw [r.none_of e]; exact ih
    | some x =>
      obtain ⟨u, hu, ru⟩ := r.get e
      rw [hu]
      exact .cons ru ih
section
variable {X : Cx}
def tStepL (K : PySem.W.Frag) (te tk : TE) : TE := fun σ H Q => te σ H fun x H1 => ∃ a xs, x = .ref a ∧ SqL K H1 a xs ∧ tPart tk σ H1 fun o H2 => ∃ k : Nat, o = some (k : Int) ∧ SqL K H2 a xs ∧ xs.length ≤ 1000 ∧
  ∀ p ys, H2 p = none → (∀ y ∈ ys, y ∈ xs) → ys.length ≤ xs.length → Q (.ref p) (upd H2 p (.lst ys))
theorem pe_stepL {e ek : Expr} {te tk : TE} {k : Nat} {p1 p3 pos : Pos} (he : PE X e te) (hk : PE X ek tk) : PE X (.Subscript e (.Slice (some ek) none (some (.Constant (.int 4) k p1)) p3) pos) (tStepL X.K te tk) := by
  refine ⟨fun pins s σ H Q I h => Subscript_ (thn (he.run pins s σ H _ I h) fun v s1 ⟨x, H1, I1, r1, a, xs, ex, hx, q⟩ => ?_)⟩
  subst ex
  cases r1
  have hst : PO X (some (.Constant (.int 4) k p1)) (tPart (tC (.int 4))) := po_some pe_int
  have hlo : PO X (some ek) (tPart tk) := po_some hk
  refine wpAny_Slice (thn (hlo.run pins s1 σ H1 _ I1 q) fun vl s2 ⟨l, H2, I2, pl, kk, el, hx2, hl2, q2⟩ => ?_)
  subst el
  refine thn (po_none.run pins s2 σ H2 (fun o H3 => o = none ∧ H3 = H2) I2 ⟨rfl, rfl⟩) fun vu s3 ⟨u, H3, I3, pu, eu, e3⟩ => ?_
  subst eu e3
  refine thn (hst.run pins s3 σ H3 (fun o H4 => o = some 4 ∧ H4 = H3) I3 ⟨4, rfl, rfl, rfl⟩) fun vs s4 ⟨o, H4, I4, ps, eo, e4⟩ => ?_
  subst eo e4
  cases pu
  have I5 : Inv X pins σ H4 { s4 with heap := s4.heap.push { cls := .type "slice", data := .fields #[vl, .none, vs] } } := I4.kept (t' := s4.toks) fun b ob q => Heap.get?_push_of_some _ q
  obtain ⟨its, r, ht, hz⟩ := I5.list hx2
  have hlen := r.length
  show wpAny (model X.prog X.w) X.A (subscriptTail e (.Slice (some ek) none (some (.Constant (.int 4) k p1)) p3) (.ref a) (.ref s4.heap.objs.size)) (EP X pins σ Q) X.xe { s4 with heap := s4.heap.push { cls := .type "slice", data := .fields #[vl, .none, vs] } }
  refine tail_any (ops := [.ref a, .ref s4.heap.objs.size]) ht.isList.typeIs (slot_list_getitem.lookup) ?_ (by with_unfolding_all rfl)
  refine wpAny_getItem_list_slice ht.isList (Heap.IsSliceOf.new _ vl .none vs) pl .none ps (by decide) ?_ (by rw [List.size_toArray]; omega)
  have rd := vals_pick r (sliceRange (sliceBounds (some (kk : Int)) none (some 4) its.length).1 (sliceBounds (some (kk : Int)) none (some 4) its.length).2.1 (sliceBounds (some (kk : Int)) none (some 4) its.length).2.2)
  have hb : (sliceRange (sliceBounds (some (kk : Int)) none (some 4) its.length).1 (sliceBounds (some (kk : Int)) none (some 4) its.length).2.1 (sliceBounds (some (kk : Int)) none (some 4) its.length).2.2).length ≤ its.length := by
    refine sliceRange_length_le _ _ _ _ (fun _ => ?_) (fun z => absurd (show (4 : Int) > 0 by decide) z)
    unfold sliceBounds
    simp
    omega
  have hl : ∀ (ix : List Nat), (ix.filterMap (xs[·]?)).length ≤ ix.length := fun ix => List.length_filterMap_le _ _
  have e : slicePick its.toArray (some (kk : Int)) none (some 4) = ((sliceRange (sliceBounds (some (kk : Int)) none (some 4) its.length).1 (sliceBounds (some (kk : Int)) none (some 4) its.length).2.1 (sliceBounds (some (kk : Int)) none (some 4) its.length).2.2).filterMap (its[·]?)).toArray := by
    unfold slicePick
    rw [List.size_toArray]
    congr 1
    refine fm_congr fun i _ => ?_
    rw [List.getElem?_toArray]
  rw [e]
  generalize sliceRange (sliceBounds (some (kk : Int)) none (some 4) its.length).1 (sliceBounds (some (kk : Int)) none (some 4) its.length).2.1 (sliceBounds (some (kk : Int)) none (some 4) its.length).2.2 = ix at rd hb
  have h2 := hl ix
  refine ⟨.ref _, _, I5.laid (t' := s4.toks) (o := .lst (ix.filterMap (xs[·]?))) (fun b ob q => Heap.get?_push_of_some _ q) (Nat.le_refl _) ?_, rfl, q2 _ _ (I5.hok.fresh (Nat.le_refl _)) (fun y hy => ?_) (by omega)⟩
  · exact ⟨by omega, _, 0, rd, Heap.get?_push_size _ rfl⟩
  · obtain ⟨i, _, hi⟩ := List.mem_filterMap.mp hy
    exact List.mem_of_getElem? hi
end
end Pr
namespace K61
open PySem PySem.Spec PyProof.Rows L2 Pr

abbrev sInitT : Stmt := inClass (topS 6) 0
theorem scInitT : FnScope ["self", "index"] ["self", "index"] (defScope sInitT) := ⟨rfl, rfl, rfl, by decide +kernel, rfl, by decide +kernel, by decide +kernel⟩
def isS : PyData → Bool
  | .str _ => true
  | _ => false
theorem isS_kit {K : PySem.W.Frag} (d : PyData) : PySem.W.kitOne K (.type (tyD d)) (.type "str") = some (isS d) := by
  cases d with
  | none => exact kit_ty (show kitB "NoneType" "str" = some false by decide +kernel)
  | bool _ => exact kit_ty (show kitB "bool" "str" = some false by decide +kernel)
  | int _ => exact kit_ty (show kitB "int" "str" = some false by decide +kernel)
  | str _ => exact kit_ty (show kitB "str" "str" = some true by decide +kernel)
  | list _ => exact kit_ty (show kitB "list" "str" = some false by decide +kernel)
  | tuple _ => exact kit_ty (show kitB "tuple" "str" = some false by decide +kernel)
  | dict _ => exact kit_ty (show kitB "dict" "str" = some false by decide +kernel)

def nWordsOf : List Str := ["value"]
theorem scWordsOf : FnScope nWordsOf ["value"] (defScope sWordsOf) := ⟨rfl, rfl, rfl, by decide +kernel, rfl, by decide +kernel, by decide +kernel⟩
section
variable {P : Program} {w : World} {K : PySem.W.Frag} {mg : Str → Option Value} {base : Heap}

theorem ok_initT {f C : Addr} {fd : FuncData} {k : Nat} (F : Fun K "__init__" "BadText.__init__" sInitT f fd) : FnOk P w K mg base CX0 (k + 1) f fd ["self", "index"] (spI K C "index") := by
  refine F.ok scInitT (fun vs H Q E h => ?_) (fun cdv A outer s H vs Q E hr h => ?_)
  · obtain ⟨e, y, rfl, _⟩ := h
    rfl
  · obtain ⟨e, y, rfl, T, hno, he, q⟩ := h
    refine ⟨_, pss_one (ps_ost (pv 0) (pv 1)), ?_⟩
    exact ⟨y, rfl, .ref e, rfl, e, C, rfl, T, hno, .inl ⟨he, q⟩⟩

def spWordsOf (K : PySem.W.Frag) (C : Addr) : Sp := fun vs H Q E => ∃ (N : Addr → Prop) (v : V) (d : PyData), vs = [v] ∧ Dq K N H v d ∧ (∀ x, d = .str x → x.length ≤ 1000) ∧
  (∀ x, d = .str x → ∀ H' a, Same H H' → H a = none → H' a = some (.lst ((Txt.split x (" " : Str)).map V.str)) → Q (.ref a) H') ∧ (isS d = false → ∀ H' dd, Same H H' → H' dd = some (.xd [("index", .non)]) → E (.ref C) (some dd) H')
theorem ok_WordsOf {f C fI : Addr} {fd fdI : FuncData} {k : Nat} (F : Fun K "words_of" "words_of" sWordsOf f fd) (T : ExF K mg "BadText" "index" "BadText.__init__" sInitT C fI fdI) (m_isinstance : mg "isinstance" = none) (m_str : mg "str" = none) : FnOk P w K mg base (L2.CX P w) (k + 3) f fd ["value"] (spWordsOf K C) := by
  have GI : FnOk P w K mg base CX0 (k + 1) fI fdI ["self", "index"] (spI K C "index") := ok_initT T.FI
  refine F.okX scWordsOf (fun vs H Q E h => ?_) (fun cdv A outer s H vs Q E hr h => ?_)
  · obtain ⟨N, v, d, rfl, _⟩ := h
    rfl
  · obtain ⟨N, v, d, rfl, hd, hl, q1, q2⟩ := h
    refine ⟨_, pss_cons (ps_if (pt_not (pt_val (pe_callB (show CallR _ _ (rIsi K) from call_isi) (by rfl) m_isinstance (by decide +kernel) (pa_cons (pv 0) (pa_cons (pe_bltn (v := .ty "str") (by rfl) m_str (by decide +kernel) rfl) pa_nil))))) (pss_one (ps_raise rfl (takes_of rfl rfl rfl rfl) (pmk_oex T.oex T.iC T.tI GI (hr.mono (by omega)) T.bI .nil pass0 (by rfl) T.g (pa_cons pe_non pa_nil)))) pss_nil)
      (pss_one (ps_ret (pe_split (pv 0) pe_str))), ?_⟩
    refine ⟨v, rfl, v, .ty "str", _, _, _, rfl, .ty "str", hd.ty, isS_kit d, _, rfl, ?_⟩
    cases e : isS d with
    | true =>
      obtain ⟨x, rfl⟩ : ∃ x, d = .str x := by
        cases d <;> first | exact ⟨_, rfl⟩ | cases e
      cases hd
      have hx := hl x rfl
      refine iteF ⟨.str x, rfl, ⟨x, rfl⟩, x, (" " : Str), rfl, rfl, by decide +kernel, Nat.le_of_lt (small5 (by omega)), fun p np => q1 x rfl _ p (same_new np) np upd_same⟩
    | false => exact iteT (rzF T fun H2 dd s2 ed => q2 e H2 dd s2 ed)
end


def nByText : List Str := ["many", "button"]
theorem scByText : FnScope nByText ["many"] (defScope sByText) := ⟨rfl, rfl, rfl, by decide +kernel, rfl, by decide +kernel, by decide +kernel⟩
section
variable {P : Program} {w : World} {K : PySem.W.Frag} {mg : Str → Option Value} {base : Heap}

def spByText (K : PySem.W.Frag) : Sp := fun vs H Q _ => ∃ (n : Nat), vs = [.int (n : Int)] ∧ n ≤ 1000 ∧ ∀ H' a, Same H H' → H a = none → H' a = some (.dK (kvsB n)) → Q (.ref a) H'
theorem ok_ByText {f : Addr} {fd : FuncData} {k : Nat} (F : Fun K "buttons_by_text" "buttons_by_text" sByText f fd) (m_range : mg "range" = none) (m_str : mg "str" = none) : FnOk P w K mg base CX0 (k + 1) f fd ["many"] (spByText K) := by
  refine F.ok scByText (fun vs H Q E h => ?_) (fun cdv A outer s H vs Q E hr h => ?_)
  · obtain ⟨n, rfl, _⟩ := h
    rfl
  · obtain ⟨n, rfl, hn, q⟩ := h
    refine ⟨_, pss_one (ps_ret (pe_dc (own := [("button", 1)]) (g := gName 1) (tt := tYes) rfl scByText.nd (pi_range1 (by rfl) m_range (pa_cons (pv 0) pa_nil))
      (blkOk_by (own := [("button", 1)]) (N := nByText) (sc := defScope sByText) (by decide +kernel)) (fun _ _ _ _ _ => pg_name (i := 1) scByText.nd rfl (Or.inl rfl)) (fun _ _ _ _ _ => pts_nil)
      (fun _ _ _ _ _ => pe_callTy (show CallR _ _ rStrI from call_str_int) (by rfl) m_str (by decide +kernel) (pa_cons (pv 1) pa_nil)) (fun _ _ _ _ _ => pv 1))), ?_⟩
    refine ⟨.int (n : Int), rfl, (n : Int), rfl, by omega, by omega, fun D nD => ?_⟩
    rw [Int.toNat_natCast]
    refine dc_it (walk_range (lo := 0) (n := n)) (fun i H3 => Same H H3 ∧ H3 D = some (.dK (kvsB i))) ⟨same_new nD, upd_same⟩ (fun i H3 _ hP => trivial) (fun i x H3 H4 hi hP hY => ?_) (fun H3 hP => q H3 D hP.1 nD hP.2)
    obtain ⟨rfl, rfl⟩ := hY
    obtain ⟨s3, e3⟩ := hP
    have lg : ∀ n < 1000, (((n : Nat) : Int)).natAbs.log2 < 1920 := by decide +kernel
    refine ⟨rfl, tyes (iteT ⟨_, rfl, _, rfl, ?_, ?_⟩)⟩
    · show (0 + (i : Int)).natAbs.log2 < 1920
      rw [Int.zero_add]; exact lg i (by omega)
    refine ⟨.int (0 + (i : Int)), rfl, kvsB i, Sum.inr (numT (0 + (i : Int))), rfl, e3, ?_, fun b o eb => ?_, ?_⟩
    · rw [kvsB_len]; exact small1000 (by omega)
    · rw [upd_ne (ne_of_none eb nD)]; exact s3 _ _ eb
    · rw [upd_same, Int.zero_add]
      unfold putK
      rw [if_neg (by rw [kvsB_newG]; exact Bool.false_ne_true), kvsB_succ]
end

end K61
namespace K61
open PySem PySem.Spec PyProof.Rows L2 Pr
theorem scBtn : FnScope ["value", "many"] ["value", "many"] (defScope sBtn) := ⟨rfl, rfl, rfl, by decide +kernel, rfl, by decide +kernel, by decide +kernel⟩
theorem scBtnT : FnScope ["value", "many", "before", "item"] ["value", "many"] (defScope sBtnT) := ⟨rfl, rfl, rfl, by decide +kernel, rfl, by decide +kernel, by decide +kernel⟩
section
variable {P : Program} {w : World} {K : PySem.W.Frag} {mg : Str → Option Value} {base : Heap}
def spBtn (K : PySem.W.Frag) : Sp := fun vs H Q _ => ∃ (N : Addr → Prop) (v : V) (d : PyData) (n : Int), vs = [v, .int n] ∧ Dq K N H v d ∧ Q (.bl (isBtn n d)) H
theorem ok_btn {f : Addr} {fd : FuncData} {k : Nat} (F : Fun K "is_button" "is_button" sBtn f fd) (mi : mg "isinstance" = none) (mb : mg "bool" = none) (mn : mg "int" = none) : FnOk P w K mg base CX0 (k + 1) f fd ["value", "many"] (spBtn K) := by
  refine F.ok scBtn (fun vs H Q E h => ?_) (fun cdv A outer s H vs Q E hr h => ?_)
  · obtain ⟨N, v, d, n, rfl, _⟩ := h
    rfl
  · obtain ⟨N, v, d, n, rfl, hd, q⟩ := h
    refine ⟨_, pss_cons (ps_if (PW.pt (pw_or (pt_val (pe_callB call_isi (by rfl) mi (by decide +kernel) (pa_cons (pv 0) (pa_cons (pe_bltn (v := .ty "bool") (by rfl) mb (by decide +kernel) rfl) pa_nil))))
        (pw_or1 (pt_not (pt_val (pe_callB call_isi (by rfl) mi (by decide +kernel) (pa_cons (pv 0) (pa_cons (pe_bltn (v := .ty "int") (by rfl) mn (by decide +kernel) rfl) pa_nil))))))))
        (pss_one (ps_ret pe_bl)) pss_nil)
      (pss_one (ps_ret (pe_chain op_le op_lt pe_int (pv 0) (pv 1)))), ?_⟩
    refine ⟨v, rfl, v, .ty "bool", _, _, _, rfl, .ty "bool", hd.ty, isB_kit d, _, rfl, ?_⟩
    by_cases hb : ∃ b, d = .bool b
    · obtain ⟨b, rfl⟩ := hb
      exact iteT (iteT q)
    · have e1 : isB d = false := by
        cases d <;> first | rfl | exact absurd ⟨_, rfl⟩ hb
      rw [e1]
      refine iteF ⟨v, rfl, v, .ty "int", _, _, _, rfl, .ty "int", hd.ty, isI_kit d, _, rfl, ?_⟩
      by_cases hi : ∃ i, d = .int i
      · obtain ⟨i, rfl⟩ := hi
        cases hd
        refine iteF ⟨.int i, rfl, 0, i, rfl, rfl, _, rfl, ite2 (fun e => ?_) (fun e => ?_)⟩
        · refine ⟨.int n, rfl, i, n, rfl, rfl, ?_⟩
          have q' : Q (.bl (decide (0 ≤ i) && decide (i < n))) H := q
          rw [e, Bool.true_and] at q'
          exact q'
        · have q' : Q (.bl (decide (0 ≤ i) && decide (i < n))) H := q
          rw [(Bool.not_eq_true _).mp e, Bool.false_and] at q'
          exact q'
      · have e2 : isI d = false := by
          cases d <;> first | rfl | exact absurd ⟨_, rfl⟩ hi | exact absurd ⟨_, rfl⟩ hb
        rw [e2]
        have q' : Q (.bl false) H := by
          cases d <;> first | exact q | exact absurd ⟨_, rfl⟩ hi
        exact iteT q'

def spBtnT (K : PySem.W.Frag) : Sp := fun vs H Q _ => ∃ (N : Addr → Prop) (v : V) (d : PyData) (n : Int), vs = [v, .int n] ∧ Dq K N H v d ∧ Q (.bl (btnT n d)) H
theorem ok_btnT {f fB : Addr} {fd fdB : FuncData} {k : Nat} (F : Fun K "is_button_tuple" "is_button_tuple" sBtnT f fd) (FB : Fun K "is_button" "is_button" sBtn fB fdB) (bB : Binds K fdB ["value", "many"] []) (gB : mg "is_button" = some (.ref fB))
    (mi : mg "isinstance" = none) (mb : mg "bool" = none) (mn : mg "int" = none) (mt : mg "tuple" = none) : FnOk P w K mg base CX0 (k + 2) f fd ["value", "many"] (spBtnT K) := by
  have GB : FnOk P w K mg base CX0 (k + 1) fB fdB ["value", "many"] (spBtn K) := ok_btn FB mi mb mn
  refine F.ok scBtnT (fun vs H Q E h => ?_) (fun cdv A outer s H vs Q E hr h => ?_)
  · obtain ⟨N, v, d, n, rfl, _⟩ := h
    rfl
  · obtain ⟨N, v, d, n, rfl, hd, q⟩ := h
    refine ⟨_, pss_cons (ps_if (pt_not (pt_val (pe_callB call_isi (by rfl) mi (by decide +kernel) (pa_cons (pv 0) (pa_cons (pe_bltn (v := .ty "tuple") (by rfl) mt (by decide +kernel) rfl) pa_nil))))) (pss_one (ps_ret pe_bl)) pss_nil)
      (pss_cons (ps_set (i := 2) scBtnT.nd rfl (.inl rfl) (pe_un un_neg pe_int))
      (pss_cons (ps_for PassesOwn.never rfl (pi_tup (pv 0)) (pg_name (i := 3) scBtnT.nd rfl (.inl rfl))
        (pss_cons (ps_if (PW.pt (pw_or (pt_not (pt_val (pe_call GB hr (by rfl) gB FB.kp bB .nil pass0 (pa_cons (pv 3) (pa_cons (pv 1) pa_nil))))) (pw_or1 (pt_cmpR op_le (pv 3) (pv 2) (nomark _))))) (pss_one (ps_ret pe_bl)) pss_nil)
        (pss_one (ps_set (i := 2) scBtnT.nd rfl (.inl rfl) (pv 3)))))
      (pss_one (ps_ret pe_bl)))), ?_⟩
    refine ⟨v, rfl, v, .ty "tuple", _, _, _, rfl, .ty "tuple", hd.ty, isT_kit d, _, rfl, ?_⟩
    by_cases ht : ∃ ds, d = .tuple ds
    · obtain ⟨ds, rfl⟩ := ht
      cases hd with
      | @tup l xs _ hs ha =>
        have q' : Q (.bl (ascFrom n (-1) ds)) H := q
        refine iteF ⟨1, rfl, .ref l, rfl, l, rfl, ⟨_, hs⟩, ?_⟩
        refine for_tup (xs := xs) (fun i σ H' => H' = H ∧ ∃ b x3, σ = [some (.ref l), some (.int n), some (.int b), x3] ∧ ascFrom n (-1) ds = ascFrom n b (ds.drop i)) ⟨rfl, -1, none, rfl, rfl⟩ (fun i σ H' _ hP => by rw [hP.1]; exact hs) (fun i x σ H' hx hP => ?_) (fun σ H' hP => ?_)
        · obtain ⟨rfl, b, x3, rfl, ea⟩ := hP
          obtain ⟨di, hdi, hq⟩ := ha.get i x hx
          have hi := (List.getElem?_eq_some_iff.mp hdi).1
          have ed : ds.drop i = di :: ds.drop (i + 1) := by rw [List.drop_eq_getElem_cons hi, (List.getElem?_eq_some_iff.mp hdi).2]
          rw [ed] at ea
          refine ⟨x, rfl, .int n, rfl, N, x, di, n, rfl, hq, _, rfl, ?_⟩
          by_cases hb : isBtn n di = true
          · rw [hb]
            obtain ⟨j, rfl⟩ : ∃ j, di = .int j := by
              cases di <;> first | exact ⟨_, rfl⟩ | (simp [isBtn] at hb)
            cases hq
            have ea' : ascFrom n (-1) ds = (decide (0 ≤ j) && decide (j < n) && decide (b < j) && ascFrom n j (ds.drop (i + 1))) := ea
            have hb' : (decide (0 ≤ j) && decide (j < n)) = true := hb
            rw [hb', Bool.true_and] at ea'
            refine iteF ⟨.int j, rfl, .int b, rfl, j, b, rfl, rfl, _, rfl, ite2 (fun e => ?_) (fun e => ?_)⟩
            · have : ¬ b < j := by have := of_decide_eq_true e; omega
              rw [decide_eq_false this, Bool.false_and] at ea'
              rw [ea'] at q'
              exact q'
            · have : b < j := by
                have : ¬ j ≤ b := fun h => e (decide_eq_true h)
                omega
              rw [decide_eq_true this, Bool.true_and] at ea'
              exact ⟨.int j, rfl, rfl, j, _, rfl, ea'⟩
          · rw [(Bool.not_eq_true _).mp hb]
            have ef : ascFrom n (-1) ds = false := by
              rw [ea]
              cases di with
              | int j =>
                have hb' : (decide (0 ≤ j) && decide (j < n)) = false := (Bool.not_eq_true _).mp hb
                show (decide (0 ≤ j) && decide (j < n) && decide (b < j) && ascFrom n j (ds.drop (i + 1))) = false
                rw [hb', Bool.false_and, Bool.false_and]
              | _ => rfl
            rw [ef] at q'
            exact iteT q'
        · obtain ⟨rfl, b, x3, rfl, ea⟩ := hP
          rw [ha.length, List.drop_length] at ea
          rw [ea] at q'
          exact q'
    · have e1 : isT d = false := by
        cases d <;> first | rfl | exact absurd ⟨_, rfl⟩ ht
      rw [e1]
      have q' : Q (.bl false) H := by
        cases d <;> first | exact q | exact absurd ⟨_, rfl⟩ ht
      exact iteT q'
end

end K61
namespace K61
open PySem PySem.Spec PyProof.Rows L2 Pr

def rLenDK (K : PySem.W.Frag) : List V → Hp → VK → Prop := fun vs H Q => ∃ (a : Addr) (kvs : List (Key × V)), vs = [V.ref a] ∧ H a = some (.dK kvs) ∧ Q (.int kvs.length) H
theorem cr_lenDK {X : Cx} : CallR X (.builtin "len") (rLenDK X.K) := by
  intro pins s σ H vs us Q I r h
  obtain ⟨a, kvs, rfl, e, q⟩ := h
  rw [Vals.ref1 r]
  exact d_len I (.inl e) fun t s' I' => ⟨.int kvs.length, H, I', ⟨t, rfl⟩, q⟩
theorem gv_lenDK {K : PySem.W.Frag} {σ : L2.St} {H : Hp} {i : Nat} {D : Addr} {kvs : List (Key × V)} (hi : σ[i]? = some (some (.ref D))) (e : H D = some (.dK kvs)) : Gv K (tCB (rLenDK K) (tCons (tVar i) tNil)) σ H (.int kvs.length) := fun H1 s Q q =>
  ⟨.ref D, hi, D, kvs, rfl, s _ _ e, q _ _ (Same.refl _) (.int _)⟩
theorem gv_dgetB {K : PySem.W.Frag} {σ : L2.St} {H : Hp} {i j : Nat} {D : Addr} {m : Nat} {z : Str} (hi : σ[i]? = some (some (.ref D))) (e : H D = some (.dK (kvsB m))) (hj : σ[j]? = some (some (.str z))) : Gv K (tDGet1 (tVar i) (tVar j)) σ H (dB m z) := fun H1 s Q q => by
  refine ⟨.ref D, hi, D, rfl, .inl ⟨_, .inl (s _ _ e)⟩, .str z, hj, _, DGet.k (k := Sum.inr z) (s _ _ e), ?_⟩
  rw [valV_kvsG]
  cases eo : okB m z with
  | none =>
    refine q _ _ (Same.refl _) ?_
    unfold dB
    rw [eo]
    exact .non
  | some b =>
    refine q _ _ (Same.refl _) ?_
    unfold dB
    rw [eo]
    exact .int _
theorem gv_numS {K : PySem.W.Frag} {σ : L2.St} {H : Hp} {te : TE} {x : Int} (h : Gv K te σ H (.int x)) (h0 : 0 ≤ x) (h1 : x ≤ 1000) : Gv K (tCB rStrI (tCons te tNil)) σ H (.str (numT x)) := gv_cb (gva_cons h gva_nil) fun vs H1 Q s hd' q => by
  obtain ⟨v, rfl, hv⟩ := dpAll1 hd'
  cases hv
  have this : ∀ n < 1001, (((n : Nat) : Int)).natAbs.log2 < 1920 := by decide +kernel
  obtain ⟨n, rfl⟩ : ∃ n : Nat, x = (n : Int) := ⟨x.toNat, (Int.toNat_of_nonneg h0).symm⟩
  exact ⟨_, rfl, this n (by omega), q _ _ (Same.refl _) (.str _)⟩
theorem dq_parts {K : PySem.W.Frag} {N : Addr → Prop} {H : Hp} {m : Nat} : ∀ (fs : List Str) (vs : List V), DpAll K H vs (fs.map (dB m)) → DqAll K N H vs (fs.map (dB m))
  | [], vs, h => by cases h; exact .nil
  | f :: r, vs, h => by
    cases h with
    | cons h1 h2 =>
      refine .cons ?_ (dq_parts r _ h2)
      unfold dB at h1 ⊢
      cases e : okB m f with
      | none => rw [e] at h1; cases h1; exact .non
      | some b => rw [e] at h1; cases h1; exact .int _
theorem gv_BtnT {K : PySem.W.Frag} {σ : L2.St} {H : Hp} {E : XK} {j : Nat} {m : Nat} {v : V} {fs : List Str} {tl : TE} (hj : σ[j]? = some (some v)) (hv : Dp K H v (.tuple (fs.map (dB m)))) (hl : Gv K tl σ H (.int (m : Int))) : Gv K (tCall (spBtnT K) [] E (tCons (tVar j) (tCons tl tNil))) σ H (.bool (btnT (m : Int) (.tuple (fs.map (dB m))))) := fun H1 s Q q => by
  refine ⟨v, hj, hl H1 s _ fun u H2 s2 du => ?_⟩
  cases du
  obtain ⟨a, xs, rfl, hq, hr⟩ := ((hv.sm s).sm s2).tupI
  exact ⟨fun _ => False, .ref a, _, (m : Int), rfl, .tup hq (dq_parts _ _ hr), q _ _ s2 (.bl _)⟩

def nPList : List Str := ["word", "button", "buttons", "name", "sign", "rest", "released", "part"]
theorem scPList : FnScope nPList ["word", "button", "buttons"] (defScope sPList) := ⟨rfl, rfl, rfl, by decide +kernel, rfl, by decide +kernel, by decide +kernel⟩
section
variable {P : Program} {w : World} {K : PySem.W.Frag} {mg : Str → Option Value} {base : Heap}
def spPList (K : PySem.W.Frag) : Sp := fun vs H Q _ => ∃ (x : Str) (i m : Nat) (D : Addr), vs = [.str x, .int (i : Int), .ref D] ∧ x.length ≤ 1000 ∧ i ≤ 1000 ∧ m ≤ 1001 ∧ H D = some (.dK (kvsB m)) ∧ ∀ H' v, Same H H' → Dp K H' v (dL (lstW m i x)) → Q v H'
theorem ok_PList {fBtn : Addr} {fdBtn : FuncData} {fBtnT : Addr} {fdBtnT : FuncData} {f : Addr} {fd : FuncData} {k : Nat} (F : Fun K "parse_list" "parse_list" sPList f fd)
    (FBtn : Fun K "is_button" "is_button" sBtn fBtn fdBtn) (bBtn : Binds K fdBtn ["value", "many"] []) (gBtn : mg "is_button" = some (.ref fBtn))
    (FBtnT : Fun K "is_button_tuple" "is_button_tuple" sBtnT fBtnT fdBtnT) (bBtnT : Binds K fdBtnT ["value", "many"] []) (gBtnT : mg "is_button_tuple" = some (.ref fBtnT))
    (m_bool : mg "bool" = none) (m_int : mg "int" = none) (m_isinstance : mg "isinstance" = none) (m_len : mg "len" = none) (m_str : mg "str" = none) (m_tuple : mg "tuple" = none) : FnOk P w K mg base CX0 (k + 3) f fd ["word", "button", "buttons"] (spPList K) := by
  have GBtnT : FnOk P w K mg base CX0 (k + 2) fBtnT fdBtnT ["value", "many"] (spBtnT K) := ok_btnT FBtnT FBtn bBtn gBtn m_isinstance m_bool m_int m_tuple
  refine F.ok scPList (fun vs H Q E h => ?_) (fun cdv A outer s H vs Q E hr h => ?_)
  · obtain ⟨x, i, m, D, rfl, _⟩ := h
    rfl
  · obtain ⟨x, i, m, D, rfl, hx, hi, hm, eD, q⟩ := h
    refine ⟨_, pss_cons (ps_asg (pe_partition (pv 0) pe_str) (pg_tup rfl (pgs_cons (pg_name (i := 3) scPList.nd rfl (Or.inl rfl)) (pgs_cons (pg_name (i := 4) scPList.nd rfl (Or.inl rfl)) (pgs_cons (pg_name (i := 5) scPList.nd rfl (Or.inl rfl)) pgs_nil)))))
      (pss_cons (ps_if (PW.pt (pw_or (pt_cmpR op_eq (pv 4) pe_str (nomark _)) (pw_or1 (pt_cmpR op_ne (pv 3) (pe_callTy (show CallR _ _ rStrI from call_str_int) (by rfl) m_str (by decide +kernel) (pa_cons (pv 1) pa_nil)) (nomark _))))) (pss_one (ps_ret pe_non)) pss_nil)
      (pss_cons (ps_if (pt_cmpR op_eq (pv 5) pe_str (nomark _)) (pss_one (ps_ret (pe_tup pa_nil))) pss_nil)
      (pss_cons (ps_set (i := 6) scPList.nd rfl (.inl rfl) (pe_callTy (show CallR _ _ (rTupG K) from cr_tupG) (by rfl) m_tuple (by decide +kernel) (pa_cons (pe_lc (own := [("part", 7)]) (g := gName 7) (tt := tYes) rfl scPList.nd (show PI _ _ _ (iList K _) from pi_list (pe_split (pv 5) pe_str)) (blkOk_by (own := [("part", 7)]) (N := nPList) (sc := defScope sPList) (by decide +kernel)) (fun _ _ _ _ _ => pg_name (i := 7) scPList.nd rfl (Or.inl rfl)) (fun _ _ _ _ _ => pts_nil) (fun _ _ _ _ _ => pe_dget1 hr.u1 (pv 2) (pv 7) ⟨rfl, rfl, rfl, rfl⟩)) pa_nil)))
      (pss_cons (ps_if (PW.pt (pw_or (pt_not (pt_val (pe_call GBtnT (hr.mono (by omega)) (by rfl) gBtnT FBtnT.kp bBtnT .nil pass0 (pa_cons (pv 6) (pa_cons (pe_callB (show CallR _ _ (rLenDK K) from cr_lenDK) (by rfl) m_len PySem.boot_len (pa_cons (pv 2) pa_nil)) pa_nil))))) (pw_or1 (pt_cmpR (show OpR _ _ (rIn K false) from op_in_seq) (pv 1) (pv 6) (by rfl))))) (pss_one (ps_ret pe_non)) pss_nil)
      (pss_one (ps_ret (pv 6))))))), ?_⟩
    refine ⟨.str x, rfl, ?_⟩
    refine ⟨⟨x, rfl⟩, x, (">" : Str), rfl, rfl, by decide +kernel, Nat.le_of_lt (small5 (by omega)), fun T nT => ?_⟩
    have sT := same_new (H := H) (o := HO.tup [.str (Txt.partition x (">" : Str)).1, .str (Txt.partition x (">" : Str)).2.1, .str (Txt.partition x (">" : Str)).2.2]) nT
    refine ⟨T, _, rfl, .inl (.inl upd_same), rfl, _, _, rfl, _, _, rfl, _, _, rfl, rfl, ?_⟩
    have eD1 := sT _ _ eD
    generalize upd H T (.tup [.str (Txt.partition x (">" : Str)).1, .str (Txt.partition x (">" : Str)).2.1, .str (Txt.partition x (">" : Str)).2.2]) = H1 at sT eD1 ⊢
    rcases part_find x with ⟨hf, e⟩ | ⟨k, hf, e⟩
    · have el : lstW m i x = none := by unfold lstW; rw [if_pos hf]
      rw [el] at q
      rw [e]
      refine gs_if1 (gvt_or (b := true) (c := true) ((gvt_test (K := K) (gv_eqS (gv_var (i := 4) rfl (.str _)) gv_str)).to (by show decide ((Str.empty : Str) = ("" : Str)) = true; decide +kernel)) (fun Hy sy hb => by cases hb)) (fun _ H2 s2 => ?_) (fun hb H2 s2 => by cases hb)
      exact gs_ret gv_non fun v H3 s3 dv => q H3 v (sT.trans (s2.trans s3)) dv
    rw [e]
    have en : ¬ Txt.find x (">" : Str) < 0 := by rw [hf]; omega
    refine gs_if1 (b := !decide (cutS x none (some (k : Int)) = numT (i : Int))) ((gvt_or (b := false) ((gvt_test (K := K) (gv_eqS (gv_var (i := 4) rfl (.str _)) gv_str)).to (by show decide ((">" : Str) = ("" : Str)) = false; decide +kernel)) (fun Hy sy _ => gvt_test (K := K) (gv_neS (gv_var (i := 3) rfl (.str _)) (gv_numS (gv_var (i := 1) rfl (.int _)) (by omega) (by omega))))).to (by rw [Bool.false_or])) (fun hb H2 s2 => ?_) (fun hb H2 s2 => ?_)
    · have el : lstW m i x = none := by
        unfold lstW
        rw [if_neg en, hf, if_pos (by simpa using hb)]
      rw [el] at q
      exact gs_ret gv_non fun v H3 s3 dv => q H3 v (sT.trans (s2.trans s3)) dv
    have hb : cutS x none (some (k : Int)) = numT (i : Int) := by simpa using hb
    have el : lstW m i x = (if okL m i (partsR (cutS x (some ((k : Int) + 1)) none)) = true then some (valsB m (partsR (cutS x (some ((k : Int) + 1)) none))) else none) := by
      unfold lstW
      rw [if_neg en, hf, if_neg (fun z => z hb)]
    rw [el] at q
    have hrl : (cutS x (some ((k : Int) + 1)) none).length ≤ 1000 := Nat.le_trans (cutS_length x _ _) hx
    generalize cutS x (some ((k : Int) + 1)) none = rest at q hrl ⊢
    have s02 := sT.trans s2
    have eD2 := s2 _ _ eD1
    refine gs_if1 (gvt_test (K := K) (gv_eqS (gv_var (i := 5) rfl (.str rest)) gv_str)) (fun hb H3 s3 => ?_) (fun hb H3 s3 => ?_)
    · have : rest = ("" : Str) := of_decide_eq_true hb
      subst this
      refine gs_ret (K := K) (gv_tup gva_nil) fun v H4 s4 dv => q H4 v (s02.trans (s3.trans s4)) ?_
      have e1 : partsR ("" : Str) = [] := if_pos rfl
      rw [e1]
      exact dv
    have hne : rest ≠ ("" : Str) := of_decide_eq_false hb
    have ep : partsR rest = Txt.split rest ("," : Str) := if_neg hne
    have s03 := s02.trans s3
    have eD3 := s3 _ _ eD2
    have hfl : (Txt.split rest ("," : Str)).length ≤ 1001 := by
      have h1 := split_tot sep_co rest
      have h2 := tot_len (Txt.split rest ("," : Str))
      omega
    rw [ep] at q
    refine gs_set1 (K := K) ((gv_tupL ((gn_lc (K := K) (δ := PyData.str) (as := Txt.split rest ("," : Str)) (p := fun _ => true) (f := dB m) (gvi_list (gn_split rfl (gv_var (i := 5) rfl (.str rest)) gv_str (by decide +kernel) (by omega)).gv) (fun z vz Hz hz sz dz => ⟨gvt_yes, fun _ => by cases dz; exact gv_dgetB (i := 2) (j := 7) rfl (sz _ _ eD3) rfl⟩) (fun _ _ => lf_dB _ _) (by omega)).gv)).to (by rw [List.filter_eq_self.mpr (fun _ _ => rfl)])) fun R H4 s4 dR => ?_
    have eD4 := s4 _ _ eD3
    generalize Txt.split rest ("," : Str) = fs at q dR
    have hpt := btnT_parts m fs
    refine gs_if1 (b := !(okL m i fs)) ((gvt_or (b := !(btnT (m : Int) (.tuple (fs.map (dB m))))) (c := decide ((i : Int) ∈ valsB m fs)) (gvt_not (gvt_test (K := K) (gv_BtnT (j := 6) rfl dR ((gv_lenDK (i := 2) rfl eD4).to (by rw [kvsB_len]))))) (fun Hy sy hb => ?_)).to ?_) (fun hb H5 s5 => ?_) (fun hb H5 s5 => ?_)
    · have hall : fs.all (fun z => (okB m z).isSome) = true := by
        have : btnT (m : Int) (.tuple (fs.map (dB m))) = true := by simpa using hb
        rw [hpt, Bool.and_eq_true] at this
        exact this.1
      have dR2 := dR.sm sy
      rw [dB_vals hall] at dR2
      exact gvt_test (K := K) (gv_inT (gv_var (i := 1) rfl (.int _)) (gv_var (i := 6) rfl dR2))
    · rw [hpt]
      unfold okL
      simp only [Bool.not_and, Bool.not_not]
    · rw [if_neg (by simpa using hb)] at q
      exact gs_ret gv_non fun v H6 s6 dv => q H6 v (s03.trans (s4.trans (s5.trans s6))) dv
    · have hok : okL m i fs = true := by simpa using hb
      rw [if_pos hok] at q
      have hall : fs.all (fun z => (okB m z).isSome) = true := by
        unfold okL at hok
        rw [Bool.and_eq_true, Bool.and_eq_true] at hok
        exact hok.1.1
      have dR2 := dR.sm s5
      rw [dB_vals hall] at dR2
      exact gs_ret (K := K) (gv_var (i := 6) rfl dR2) fun v H6 s6 dv => q H6 v (s03.trans (s4.trans (s5.trans s6))) dv
end
end K61
namespace K61
open PySem PySem.Spec PyProof.Rows L2 Pr
def nParse : List Str := ["value", "words", "buttons", "lists", "index", "word", "released"]
theorem scParse : FnScope nParse ["value"] (defScope sParse) := ⟨rfl, rfl, rfl, by decide +kernel, rfl, by decide +kernel, by decide +kernel⟩
section
variable {P : Program} {w : World} {K : PySem.W.Frag} {mg : Str → Option Value} {base : Heap}

def spParse (K : PySem.W.Frag) (C : Addr) : Sp := fun vs H Q E => ∃ (N : Addr → Prop) (v : V) (d : PyData), vs = [v] ∧ Dq K N H v d ∧ (∀ x, d = .str x → x.length ≤ 999) ∧
  (∀ x, d = .str x → badP (Txt.split x (" " : Str)).length 0 (Txt.split x (" " : Str)) = none → ∀ H' u, Same H H' → Dp K H' u (dPan (valsP (Txt.split x (" " : Str)).length (Txt.split x (" " : Str)))) → Q u H') ∧
  (∀ x i, d = .str x → badP (Txt.split x (" " : Str)).length 0 (Txt.split x (" " : Str)) = some i → ∀ H' dd, Same H H' → H' dd = some (.xd [("index", .int (i : Nat))]) → E (.ref C) (some dd) H') ∧
  (isS d = false → ∀ H' dd, Same H H' → H' dd = some (.xd [("index", .non)]) → E (.ref C) (some dd) H')
theorem ok_Parse {f C fI fWordsOf fByText fBtn fBtnT fPList : Addr} {fd fdI fdWordsOf fdByText fdBtn fdBtnT fdPList : FuncData} {k : Nat} {tk : Tok} (F : Fun K "parse_panel" "parse_panel" sParse f fd) (T : ExF K mg "BadText" "index" "BadText.__init__" sInitT C fI fdI)
    (FWordsOf : Fun K "words_of" "words_of" sWordsOf fWordsOf fdWordsOf) (bWordsOf : Binds K fdWordsOf ["value"] []) (gWordsOf : mg "words_of" = some (.ref fWordsOf))
    (FByText : Fun K "buttons_by_text" "buttons_by_text" sByText fByText fdByText) (bByText : Binds K fdByText ["many"] []) (gByText : mg "buttons_by_text" = some (.ref fByText))
    (FBtn : Fun K "is_button" "is_button" sBtn fBtn fdBtn) (bBtn : Binds K fdBtn ["value", "many"] []) (gBtn : mg "is_button" = some (.ref fBtn))
    (FBtnT : Fun K "is_button_tuple" "is_button_tuple" sBtnT fBtnT fdBtnT) (bBtnT : Binds K fdBtnT ["value", "many"] []) (gBtnT : mg "is_button_tuple" = some (.ref fBtnT))
    (FPList : Fun K "parse_list" "parse_list" sPList fPList fdPList) (bPList : Binds K fdPList ["word", "button", "buttons"] []) (gPList : mg "parse_list" = some (.ref fPList))
    (m_bool : mg "bool" = none) (m_enumerate : mg "enumerate" = none) (m_int : mg "int" = none) (m_isinstance : mg "isinstance" = none) (m_len : mg "len" = none) (m_range : mg "range" = none) (m_str : mg "str" = none) (m_tuple : mg "tuple" = none) (y_MAX_BUTTONS : mg "MAX_BUTTONS" = some (.int 10 tk)) : FnOk P w K mg base (L2.CX P w) (k + 4) f fd ["value"] (spParse K C) := by
  have GI : FnOk P w K mg base CX0 (k + 1) fI fdI ["self", "index"] (spI K C "index") := ok_initT T.FI
  have GWordsOf : FnOk P w K mg base (L2.CX P w) (k + 3) fWordsOf fdWordsOf ["value"] (spWordsOf K C) := ok_WordsOf FWordsOf T m_isinstance m_str
  have GByText : FnOk P w K mg base CX0 (k + 3) fByText fdByText ["many"] (spByText K) := ok_ByText FByText m_range m_str
  have GPList : FnOk P w K mg base CX0 (k + 3) fPList fdPList ["word", "button", "buttons"] (spPList K) := ok_PList FPList FBtn bBtn gBtn FBtnT bBtnT gBtnT m_bool m_int m_isinstance m_len m_str m_tuple
  refine F.okX scParse (fun vs H Q E h => ?_) (fun cdv A outer s H vs Q E hr h => ?_)
  · obtain ⟨N, v, d, rfl, _⟩ := h
    rfl
  · obtain ⟨N, v, d, rfl, hd, hl, q1, q2, q3⟩ := h
    refine ⟨_, pss_cons (ps_set (i := 1) scParse.nd rfl (.inl rfl) (pe_callS (E := fun _ => E) GWordsOf (hr.mono (by omega)) (by rfl) gWordsOf FWordsOf.kp bWordsOf (fun σ => passAt (W := fun cls d _ H => E cls d H) (takes_of rfl rfl rfl rfl) σ) (pa_cons (pv 0) pa_nil)))
      (pss_cons (ps_set (i := 2) scParse.nd rfl (.inl rfl) (pe_call GByText (hr.mono (by omega)) (by rfl) gByText FByText.kp bByText .nil pass0 (pa_cons (pe_callB (show CallR _ _ (rLenG K) from cr_lenG) (by rfl) m_len PySem.boot_len (pa_cons (pv 1) pa_nil)) pa_nil)))
      (pss_cons (ps_set (i := 3) scParse.nd rfl (.inl rfl) (pe_lst pa_nil))
      (pss_cons (ps_for (passes_of rfl) rfl (pi_enum (by rfl) m_enumerate (pa_cons (pv 1) pa_nil)) (pg_tup rfl (pgs_cons (pg_name (i := 4) scParse.nd rfl (Or.inl rfl)) (pgs_cons (pg_name (i := 5) scParse.nd rfl (Or.inl rfl)) pgs_nil))) (pss_cons (ps_set (i := 6) scParse.nd rfl (.inl rfl) (pe_call GPList (hr.mono (by omega)) (by rfl) gPList FPList.kp bPList .nil pass0 (pa_cons (pv 5) (pa_cons (pv 4) (pa_cons (pv 2) pa_nil)))))
      (pss_cons (ps_if (PW.pt (pw_or (pt_cmpR op_isN (pv 6) pe_non (by rfl)) (pw_or1 (pt_cmpR op_eq (pv 4) (pe_glob (v := .int 10) (by rfl) y_MAX_BUTTONS ⟨_, rfl⟩) (nomark _))))) (pss_one (ps_raise rfl (takes_of rfl rfl rfl rfl) (pmk_oex T.oex T.iC T.tI GI (hr.mono (by omega)) T.bI .nil pass0 (by rfl) T.g (pa_cons (pv 4) pa_nil)))) pss_nil)
      (pss_one (ps_expr (show PE _ _ (tBM K "list" rAppend _ _) from pe_bm PySem.F.plainAttrs_list PySem.F.slot_list_append PySem.F.type_list_append mt_append (pv 3) (pa_cons (pv 6) pa_nil)))))))
      (pss_one (ps_ret (pe_callTy (show CallR _ _ (rTupG K) from cr_tupG) (by rfl) m_tuple (by decide +kernel) (pa_cons (pv 3) pa_nil))))))), ?_⟩
    refine ⟨v, rfl, N, v, d, rfl, hd, (fun x hx => by have := hl x hx; omega), fun x hx H1 W s1 nW eW => ?_, q3⟩
    subst hx
    cases hd
    have hx := hl x rfl
    have q1 := q1 x rfl
    have q2 := fun i => q2 x i rfl
    have wl : ∀ z ∈ Txt.split x (" " : Str), z.length ≤ 1000 := fun z hz => by
      have h1 := split_tot sep_sp x
      have h2 := tot_mem hz
      omega
    have wn : (Txt.split x (" " : Str)).length ≤ 1000 := by
      have h1 := split_tot sep_sp x
      have h2 := tot_len (Txt.split x (" " : Str))
      omega
    generalize Txt.split x (" " : Str) = ws at eW q1 q2 wl wn
    refine (gv_lenL1 (K := K) (i := 1) rfl eW).at fun vn H3 s3 dn => ?_
    cases dn
    rw [List.length_map]
    refine ⟨ws.length, rfl, wn, fun H4 D s4 nD eD => ?_⟩
    have s14 := s3.trans s4
    have s04 := s1.trans s14
    have eW4 := s14 _ _ eW
    refine gs_setN (K := K) (gn_lst gva_nil) fun R vR H5 s5 nR eR dR => ?_
    cases dR
    have s05 := s04.trans s5
    have nR0 : H R = none := s04.free nR
    have eW5 := s5 _ _ eW4
    have eD5 := s5 _ _ eD
    have WR : W ≠ R := ne_of_none eW4 nR
    have DR : D ≠ R := ne_of_none eD nR
    refine ⟨.ref W, rfl, W, _, rfl, .inl (.inl eW5), ?_⟩
    refine for_it (walk_enum (xs := ws.map V.str)) (fun i σ H' => (∀ b o, b ≠ R → H5 b = some o → H' b = some o) ∧ Kp H5 H' ∧ (∃ vs, H' R = some (.lst vs) ∧ DpAll K H' vs ((valsP ws.length (ws.take i)).map dInts)) ∧ (∀ j z, j < i → ws[j]? = some z → okP ws.length j z) ∧ ∃ x4 x5 x6, σ = [some (.str x), some (.ref W), some (.ref D), some (.ref R), x4, x5, x6])
      ⟨fun _ _ _ eb => eb, Kp.refl _, ⟨[], eR, by rw [List.take_zero]; exact .nil⟩, fun j z h => absurd h (Nat.not_lt_zero _), _, _, _, rfl⟩ (fun i σ H' _ hP => .inl (.inl (hP.1 _ _ WR eW5))) (fun i u σ H6 H7 hi hP hY => ?_) (fun σ H6 hP => ?_)
    · obtain ⟨b6, k6, ⟨vs, eR6, dR6⟩, hok, x4, x5, x6, rfl⟩ := hP
      obtain ⟨Te, y1, y2, rfl, nT, rfl, e1, e2⟩ := hY
      cases e1
      obtain ⟨z, hz, rfl⟩ := str_get e2
      have il : i < ws.length := (List.getElem?_eq_some_iff.mp hz).1
      have sT : Same H6 (upd H6 Te (.tup [.int (i : Nat), .str z])) := same_new nT
      refine ⟨Te, _, rfl, .inl (.inl upd_same), rfl, _, _, rfl, _, _, rfl, rfl, ?_⟩
      have eD7 := sT _ _ (b6 _ _ DR eD5)
      have eR7 := sT _ _ eR6
      have b7 : ∀ b o, b ≠ R → H5 b = some o → (upd H6 Te (.tup [.int (i : Nat), .str z])) b = some o := fun b o hb eb => sT _ _ (b6 b o hb eb)
      have k7 := k6.trans (Kp.of sT)
      have dR7 := dR6.sm sT
      generalize upd H6 Te (.tup [.int (i : Nat), .str z]) = H7 at eD7 eR7 b7 k7 dR7 ⊢
      have bad : (lstW ws.length i z = none ∨ i = 10) → badP ws.length 0 ws = some i := fun hb => badP_at hz hok hb
      have s07 : Same H H7 := fun b o eb => b7 b o (ne_of_none eb nR0) (s05 _ _ eb)
      refine ⟨.str z, rfl, .int (i : Nat), rfl, .ref D, rfl, z, i, ws.length, D, rfl, wl z (List.mem_of_getElem? hz), by omega, by omega, eD7, fun H8 v8 s8 d8 => ?_⟩
      have s08 := s07.trans s8
      have eR8 := s8 _ _ eR7
      refine ⟨v8, rfl, ?_⟩
      cases ho : lstW ws.length i z with
      | none =>
        rw [ho] at d8
        cases d8
        refine ⟨rfl, true, rfl, iteT ?_⟩
        exact ⟨.int (i : Nat), rfl, rzF T fun H2 dd s2 ed => q2 i (bad (.inl ho)) H2 dd (s08.trans s2) ed⟩
      | some l =>
        rw [ho] at d8
        have d8' : Dp K H8 v8 (dInts l) := d8
        obtain ⟨a8, rfl, hq8⟩ := d8'.intsI
        refine ⟨rfl, false, rfl, iteF ?_⟩
        refine ⟨.int (i : Nat), rfl, rfl, _, rfl, ?_⟩
        by_cases h10 : i = 10
        · rw [decide_eq_true (by rw [h10]; rfl)]
          exact iteT ⟨.int (i : Nat), rfl, rzF T fun H2 dd s2 ed => q2 i (bad (.inr h10)) H2 dd (s08.trans s2) ed⟩
        · rw [decide_eq_false (by intro z; injection z with z; exact h10 (by omega))]
          have lt10 : i ≤ 1000 := by omega
          refine iteF ⟨.ref R, rfl, .inl ⟨rfl, _, .inl (.inl eR8)⟩, .ref a8, rfl, ?_⟩
          refine ⟨R, _, .ref a8, rfl, rfl, eR8, ?_, ?_⟩
          · have := dR7.length
            unfold valsP at this
            rw [List.length_map, List.length_map, List.length_zipIdx, List.length_take] at this
            exact small1000 (by omega)
          · have kU : Kp H8 (upd H8 R (.lst (vs ++ [.ref a8]))) := Kp.upd eR8
            refine ⟨fun c o hc eb => by rw [upd_ne hc]; exact s8 _ _ (b7 c o hc eb), (k7.trans (Kp.of s8)).trans kU, ⟨_, upd_same, ?_⟩, fun j z' hj hz' => ?_, _, _, _, rfl⟩
            · rw [valsP_take hz, ho, List.map_append]
              exact (dpAll_kp kU _ _ (lfAll_of fun d hd => by obtain ⟨l, _, rfl⟩ := List.mem_map.mp hd; exact lf_ints l) (dR7.sm s8)).append (.cons (d8'.kp kU) .nil)
            · rcases Nat.lt_or_ge j i with h | h
              · exact hok j z' h hz'
              · have : j = i := by omega
                subst this
                rw [hz] at hz'
                cases hz'
                intro hb
                rcases hb with hb | hb
                · rw [ho] at hb; cases hb
                · exact h10 hb
    · obtain ⟨b6, k6, ⟨vs, eR6, dR6⟩, hok, x4, x5, x6, rfl⟩ := hP
      rw [List.length_map, List.take_length] at dR6
      rw [List.length_map] at hok
      have hbad : badP ws.length 0 ws = none := badP_all fun j z hz => hok j z (List.getElem?_eq_some_iff.mp hz).1 hz
      have s06 : Same H H6 := fun b o eb => b6 b o (ne_of_none eb nR0) (s05 _ _ eb)
      refine ⟨.ref R, rfl, R, _, rfl, .inl ⟨.inl (.inl eR6), fun Te nT => ?_⟩⟩
      exact q1 hbad _ _ (s06.trans (same_new nT)) (.tup (.inl (.inl upd_same)) (dR6.sm (same_new nT)))
end

end K61
/-! Lists of bools; panels compared. -/
namespace Pr
open PySem PySem.Spec PyProof.Rows L2
theorem eqvAll_bls : ∀ (a b : List Bool), PyData.eqvAll (a.map PyData.bool) (b.map PyData.bool) = decide (a = b)
  | [], [] => by simp [PyData.eqvAll]
  | [], _ :: _ => by simp [PyData.eqvAll]
  | _ :: _, [] => by simp [PyData.eqvAll]
  | x :: r, y :: t => by
    simp only [List.map_cons, PyData.eqvAll, PyData.eqv, eqvAll_bls r t]
    cases x <;> cases y <;> by_cases h2 : r = t <;> simp [h2]
theorem eqv_blsL (a b : List Bool) : PyData.eqv (.list (a.map PyData.bool)) (.list (b.map PyData.bool)) = decide (a = b) := by
  simp only [PyData.eqv]; exact eqvAll_bls a b
theorem lay_bls : ∀ a : List Bool, PyData.canLayAll0 (a.map PyData.bool) = true ∧ PyData.depthAll (a.map PyData.bool) = 0
  | [] => ⟨by simp [PyData.canLayAll0], by simp [PyData.depthAll]⟩
  | x :: r => by
    obtain ⟨h1, h2⟩ := lay_bls r
    exact ⟨by simp [PyData.canLayAll0, PyData.canLay0, h1], by simp [PyData.depthAll, PyData.depth, h2]⟩
theorem shp_bls (a : List Bool) : SeqAt.shaped (.list (a.map PyData.bool)) = true := by
  obtain ⟨h1, h2⟩ := lay_bls a
  simp [SeqAt.shaped, PyData.canLay0, PyData.depth, h1, h2]
theorem shp_pan (p : List (List Int)) : SeqAt.shaped (dPan p) = true := shp_rowsT p
theorem eqv_pan (p q : List (List Int)) : PyData.eqv (dPan p) (dPan q) = decide (p = q) := eqv_rowsT p q
theorem gv_neBl {K : PySem.W.Frag} {σ : L2.St} {H : Hp} {ta tb : TE} {a b : List Bool} (ha : Gv K ta σ H (.list (a.map PyData.bool))) (hb : Gv K tb σ H (.list (b.map PyData.bool))) : Gv K (tOp (rNeD K) ta tb) σ H (.bool (!decide (a = b))) := (gv_neD ha hb (shp_bls _) (shp_bls _)).to (by rw [eqv_blsL])
end Pr
/-! How often a separator stands in a text. -/
namespace Pr
open PySem PySem.Spec PyProof.Rows L2
def spn (x : Str) : Nat := (TL.tl x).count 32
theorem pre32 (c : Nat) (r : List Nat) : TL.pre [32] (c :: r) = decide (c = 32) := by
  show ((c :: r).take 1 == [32]) = _
  rw [List.take_succ_cons, List.take_zero]
  by_cases h : c = 32
  · subst h; rfl
  · rw [decide_eq_false h]
    simp [h]
theorem spl_cnt : ∀ (l acc : List Nat), (TL.spl [32] 0 acc l).length = l.count 32 + 1 ∧ (acc.count 32 = 0 → ∀ p ∈ TL.spl [32] 0 acc l, p.count 32 = 0)
  | [], acc => by
    rw [TL.spl_nil]
    exact ⟨rfl, fun h p hp => by rw [List.mem_singleton.mp hp]; exact h⟩
  | c :: r, acc => by
    by_cases h : c = 32
    · subst h
      rw [TL.spl_hit (by rw [pre32]; rfl), show [32].length - 1 = 0 from rfl]
      obtain ⟨h1, h2⟩ := spl_cnt r []
      refine ⟨by rw [List.length_cons, h1, List.count_cons_self], fun ha p hp => ?_⟩
      rcases List.mem_cons.mp hp with rfl | hp
      · exact ha
      · exact h2 rfl p hp
    · rw [TL.spl_miss (by rw [pre32]; exact decide_eq_false h)]
      obtain ⟨h1, h2⟩ := spl_cnt r (acc ++ [c])
      refine ⟨by rw [h1, List.count_cons_of_ne h], fun ha p hp => h2 ?_ p hp⟩
      rw [List.count_append, ha, List.count_cons_of_ne h]; rfl
theorem tl_sp : TL.tl (" " : Str) = [32] := by decide +kernel
theorem split_cnt (x : Str) : (Txt.split x (" " : Str)).length = spn x + 1 ∧ ∀ z ∈ Txt.split x (" " : Str), spn z = 0 := by
  obtain ⟨s, hs, e⟩ := split_tl sep_sp x
  rw [tl_sp] at hs
  injection hs with hs
  subst hs
  obtain ⟨h1, h2⟩ := spl_cnt (TL.tl x) []
  refine ⟨by unfold spn; rw [← h1, ← e, List.length_map], fun z hz => ?_⟩
  exact h2 rfl _ (by rw [← e]; exact List.mem_map_of_mem hz)
theorem spn_append (x y : Str) : spn (x ++ y) = spn x + spn y := by unfold spn; rw [TL.tl_append, List.count_append]
theorem join_cnt : ∀ ws : List Str, (∀ z ∈ ws, spn z = 0) → spn (Txt.join (" " : Str) ws) + 1 ≤ ws.length + (if ws = [] then 1 else 0)
  | [], _ => by rw [TL.join_eq]; decide +kernel
  | [p], h => by
    rw [TL.join_eq]
    show spn p + 1 ≤ _
    rw [h p List.mem_cons_self]; exact Nat.le_refl _
  | p :: q :: r, h => by
    have ih := join_cnt (q :: r) fun z hz => h z (List.mem_cons_of_mem _ hz)
    rw [if_neg (by simp)] at ih ⊢
    have hp := h p List.mem_cons_self
    rw [TL.join_eq] at ih ⊢
    show spn (p ++ (" " : Str) ++ Str.join (" " : Str) (q :: r)) + 1 ≤ _
    have e1 : spn (" " : Str) = 1 := by decide +kernel
    rw [spn_append, spn_append, hp, e1]
    rw [List.length_cons]
    omega
theorem cut_cnt (x : Str) (lo hi : Option Int) : spn (cutS x lo hi) ≤ spn x := by
  have e : TL.tl (cutS x lo hi) = (((TL.tl x).drop (HT.sIx x.length 0 lo)).take (HT.sIx x.length x.length hi - HT.sIx x.length 0 lo)) := rfl
  unfold spn
  rw [e]
  exact Nat.le_trans (List.Sublist.count_le _ (List.take_sublist _ _)) (List.Sublist.count_le _ (List.drop_sublist _ _))
/-- two cuts of which the second begins where the first ends, or later -/
theorem cut2_cnt (x : Str) {a b : Nat} (h : a ≤ b) : spn (cutS x none (some (a : Int))) + spn (cutS x (some (b : Int)) none) ≤ spn x := by
  unfold spn
  rw [cut_take, cut_drop]
  have h1 : ((TL.tl x).drop b).count 32 ≤ ((TL.tl x).drop a).count 32 := by
    have : (TL.tl x).drop b = ((TL.tl x).drop a).drop (b - a) := by rw [List.drop_drop]; congr 1; omega
    rw [this]
    exact List.Sublist.count_le _ (List.drop_sublist _ _)
  have h2 : ((TL.tl x).take a).count 32 + ((TL.tl x).drop a).count 32 = (TL.tl x).count 32 := by rw [← List.count_append, List.take_append_drop]
  omega
theorem rep_cnt (x : Str) {n : Nat} (h : n ≤ 1) : spn (repT x n) ≤ spn x := by
  unfold spn
  rw [repT_tl]
  have h0 : n = 0 ∨ n = 1 := by omega
  rcases h0 with rfl | rfl
  · exact Nat.zero_le _
  · simp
theorem tlc_append (x y : Str) : (TL.tl (x ++ y)).length = (TL.tl x).length + (TL.tl y).length := by rw [TL.tl_append, List.length_append]
end Pr
namespace K61
open PySem PySem.Spec PyProof.Rows L2 Pr

theorem dig_iff (c : Nat) : c ∈ TL.tl ("0123456789" : Str) ↔ 48 ≤ c ∧ c ≤ 57 := by
  have : TL.tl ("0123456789" : Str) = [48, 49, 50, 51, 52, 53, 54, 55, 56, 57] := by decide +kernel
  rw [this]
  simp only [List.mem_cons, List.not_mem_nil, or_false]
  omega
def dNum (x : Str) : PyData := match numW x with | some n => .int (n : Int) | none => .none

def nNum : List Str := ["_law_word", "_law_sign"]
theorem scNum : FnScope nNum ["_law_word"] (defScope sNum) := ⟨rfl, rfl, rfl, by decide +kernel, rfl, by decide +kernel, by decide +kernel⟩
section
variable {P : Program} {w : World} {K : PySem.W.Frag} {mg : Str → Option Value} {base : Heap}
def spNum (K : PySem.W.Frag) : Sp := spP K (fun x : Str => [.str x]) (fun x => x.length ≤ 640) (fun x => dNum x)
theorem gv_Num {σ : L2.St} {H : Hp} {t : TA} {E : XK} {x : Str} (h : GvA K t σ H [.str x]) (hc : x.length ≤ 640) : Gv K (tCall (spNum K) [] E t) σ H (dNum x) := gv_call (K := K) (δ := fun x : Str => [.str x]) (C := fun x => x.length ≤ 640) (f := fun x => dNum x) x h hc
theorem ok_Num  {f : Addr} {fd : FuncData} {k : Nat} (F : Fun K "_law_number" "_law_number" sNum f fd)
    (m_int : mg "int" = none) : FnOk P w K mg base CX0 (k + 1) f fd ["_law_word"] (spNum K) := by
  refine F.ok scNum (fun vs H Q E h => ?_) (fun cdv A outer s H vs Q E hr h => ?_)
  · obtain ⟨_, hd, _⟩ := h
    exact hd.length
  · obtain ⟨x, hd, hc, q⟩ := h
    obtain ⟨v1, rfl, d1⟩ := dpAll1 hd
    try dsimp only at hc
    try dsimp only at q
    try dsimp only at d1
    refine ⟨_, pss_cons (ps_if (PW.pt (pw_or (pt_cmpR op_eq (pv 0) pe_str (nomark _)) (pw_or1 (pt_cmpR (show OpR _ _ rNeE1 from op_neE1 hr.units) (pe_lc (own := [("_law_sign", 1)]) (g := gName 1) rfl scNum.nd (show PI _ _ _ (iStr _) from pi_str (pv 0)) (blkOk_by (own := [("_law_sign", 1)]) (N := nNum) (sc := defScope sNum) (by decide +kernel)) (fun _ _ _ _ _ => pg_name (i := 1) scNum.nd rfl (Or.inl rfl)) (fun _ _ _ _ _ => pts_one (pt_cmpR op_notIn_sign (pv 1) pe_str (by rfl))) (fun _ _ _ _ _ => pv 1)) (pe_lst pa_nil) (nomark _))))) (pss_one (ps_ret pe_non)) pss_nil)
      (pss_one (ps_ret (pe_ifExp (PW.pt (pw_and (pt_cmpR op_eq (pe_ix ix_str (pv 0) pe_int (fun _ _ => rfl)) pe_str (nomark _)) (pw_and1 (pt_cmpR op_ne (pv 0) pe_str (nomark _))))) pe_non (pe_callTy call_int_str (by rfl) m_int (by decide +kernel) (pa_cons (pv 0) pa_nil))))), ?_⟩
    refine gs_if1 (b := decide (x = ("" : Str)) || !(((TL.tl x).filter fun c => !decide (c ∈ TL.tl ("0123456789" : Str))).map fun c => PyData.str ⟨#[c]⟩).isEmpty) (gvt_or (gvt_test (K := K) (gv_eqS (gv_var (i := 0) rfl d1) gv_str)) (fun Hy sy _ => gvt_test (gv_neEL (gn_lc (K := K) (δ := fun c => PyData.str ⟨#[c]⟩) (as := TL.tl x) (p := fun c => !decide (c ∈ TL.tl ("0123456789" : Str))) (f := fun c => PyData.str ⟨#[c]⟩) (gvi_str (gv_var (i := 0) rfl (d1.sm sy))) (fun c vc Hx hx sx dc => ⟨gvt_test (gv_notInSign rfl (gv_var (i := 1) rfl dc) gv_str), fun _ => gv_var (i := 1) rfl dc⟩) (fun _ _ => rfl) (by rw [← TL.len_tl]; omega))))) (fun e H1 s1 => ?_) (fun e H1 s1 => ?_)
    · have hn : isNumL (TL.tl x) = false := by
        rw [Bool.or_eq_true] at e
        unfold isNumL
        rcases e with e | e
        · have e := of_decide_eq_true e
          subst e; rfl
        · have : (TL.tl x).all (fun c => decide (48 ≤ c) && decide (c ≤ 57)) = false := by
            rw [List.all_eq_false]
            cases hf : (TL.tl x).filter fun c => !decide (c ∈ TL.tl ("0123456789" : Str)) with
            | nil => rw [hf] at e; cases e
            | cons c r =>
              have hc : c ∈ (TL.tl x).filter fun c => !decide (c ∈ TL.tl ("0123456789" : Str)) := by rw [hf]; exact List.mem_cons_self
              obtain ⟨h1, h2⟩ := List.mem_filter.mp hc
              refine ⟨c, h1, fun z => ?_⟩
              simp only [Bool.and_eq_true, decide_eq_true_eq] at z
              rw [decide_eq_true ((dig_iff c).mpr z)] at h2
              cases h2
          rw [this]; simp
      have hd : dNum x = .none := by
        unfold dNum numW
        rw [if_neg (by rw [hn]; exact Bool.false_ne_true)]
      rw [hd] at q
      exact gs_ret gv_non fun v H2 s2 dv => q v H2 (s1.trans s2) dv
    · rw [Bool.or_eq_false_iff] at e
      obtain ⟨e1, e2⟩ := e
      have e1 := of_decide_eq_false e1
      have had : NumText.AllDigits (TL.tl x) := fun c hc => by
        rw [← dig_iff]
        refine Classical.byContradiction fun z => ?_
        have : c ∈ (TL.tl x).filter fun c => !decide (c ∈ TL.tl ("0123456789" : Str)) := List.mem_filter.mpr ⟨hc, by rw [decide_eq_false z]; rfl⟩
        cases hf : (TL.tl x).filter fun c => !decide (c ∈ TL.tl ("0123456789" : Str)) with
        | nil => rw [hf] at this; cases this
        | cons a r => rw [hf] at e2; cases e2
      have hne : TL.tl x ≠ [] := fun z => e1 (TL.ext_tl (by rw [z]; rfl))
      obtain ⟨c, l, hx⟩ : ∃ c l, TL.tl x = c :: l := List.exists_cons_of_ne_nil hne
      have hi : PySem.intText? x = some ((NumText.digitsVal (TL.tl x) : Nat) : Int) := intText_digits had hne (by omega)
      have hall : (TL.tl x).all (fun c => decide (48 ≤ c) && decide (c ≤ 57)) = true := by
        rw [List.all_eq_true]
        intro c hc
        have := had c hc
        simp only [Bool.and_eq_true, decide_eq_true_eq]
        exact this
      have hd : (if decide ((⟨#[c]⟩ : Str) = ("0" : Str)) && !decide (x = ("0" : Str)) then PyData.none else .int ((NumText.digitsVal (TL.tl x) : Nat) : Int)) = dNum x := by
        have z0 : TL.tl ("0" : Str) = [48] := by decide +kernel
        have b1 : ((⟨#[c]⟩ : Str) = ("0" : Str)) ↔ c = 48 := by
          constructor
          · intro z
            have := congrArg TL.tl z
            rw [z0] at this
            simpa [TL.tl] using this
          · intro z; subst z; exact TL.ext_tl z0.symm
        have b2 : (x = ("0" : Str)) ↔ TL.tl x = [48] := ⟨fun z => by rw [z, z0], fun z => TL.ext_tl (by rw [z, z0])⟩
        unfold dNum numW isNumL
        rw [hall]
        have he : (TL.tl x).isEmpty = false := by rw [hx]; rfl
        rw [he]
        have hh : (TL.tl x).head? = some c := by rw [hx]; rfl
        rw [hh]
        by_cases hc : c = 48
        · by_cases hz : TL.tl x = [48]
          · rw [decide_eq_true (b1.mpr hc), decide_eq_true (b2.mpr hz), decide_eq_true hz]
            simp
          · rw [decide_eq_true (b1.mpr hc), decide_eq_false (fun z => hz (b2.mp z)), decide_eq_false hz, hc]
            simp
        · rw [decide_eq_false (fun z => hc (b1.mp z))]
          have : decide (some c ≠ some 48) = true := decide_eq_true (by intro z; injection z with z; exact hc z)
          rw [this]
          simp
      rw [← hd] at q
      refine gs_ret (K := K) (gv_if (gvt_and (gvt_test (gv_eqS (gv_ixS0 (gv_var (i := 0) rfl (d1.sm s1)) hx (by omega)) gv_str)) (fun Hy sy _ => gvt_test (gv_neS (gv_var (i := 0) rfl ((d1.sm s1).sm sy)) gv_str))) (fun _ => gv_non) (fun _ => gv_intS rfl (gv_var (i := 0) rfl (d1.sm s1)) hi hc)) fun v H2 s2 dv => q v H2 (s1.trans s2) dv
end
end K61
namespace K61
open PySem PySem.Spec PyProof.Rows L2 Pr

def vNum (x : Str) : V := match numW x with | some n => .int (n : Int) | none => .non
theorem lf_num (x : Str) : lf (dNum x) = true := by unfold dNum; cases numW x <;> rfl
theorem dpAll_num {K : PySem.W.Frag} {H : Hp} : ∀ (fs : List Str) (vs : List V), DpAll K H vs (fs.map dNum) → vs = fs.map vNum
  | [], vs, h => by cases h; rfl
  | f :: r, vs, h => by
    cases h with
    | cons h1 h2 =>
      rw [dpAll_num r _ h2, List.map_cons]
      congr 1
      unfold dNum at h1
      unfold vNum
      cases e : numW f with
      | none => rw [e] at h1; cases h1; rfl
      | some n => rw [e] at h1; cases h1; rfl
theorem flat_num (fs : List Str) : (fs.map vNum).all flatV = true := by
  rw [List.all_map, List.all_eq_true]
  intro x _
  show flatV (vNum x) = true
  unfold vNum
  cases numW x <;> rfl
theorem inV_num (fs : List Str) : inV .non (fs.map vNum) = fs.any fun x => (numW x).isNone := by
  unfold inV
  rw [List.any_map]
  congr 1
  funext x
  show eqV (vNum x) .non = _
  unfold vNum
  cases numW x <;> rfl
def valsN (fs : List Str) : List Int := fs.map fun x => (((numW x).getD 0 : Nat) : Int)
theorem num_vals {fs : List Str} (h : (fs.any fun x => (numW x).isNone) = false) : fs.map dNum = (valsN fs).map PyData.int := by
  unfold valsN
  rw [List.map_map]
  refine List.map_congr_left fun x hx => ?_
  have := List.any_eq_false.mp h x hx
  unfold dNum
  cases e : numW x with
  | none => rw [e] at this; exact absurd rfl this
  | some n => show PyData.int (n : Int) = .int (((numW x).getD 0 : Nat) : Int); rw [e]; rfl
/-- all below the many -/
theorem vals_small {m : Nat} {fs : List Str} (h : (fs.any fun x => (numW x).isNone) = false) (hs : ∀ y ∈ valsN fs, y < (m : Int)) : fs.all (fun z => (okB m z).isSome) = true ∧ valsB m fs = valsN fs := by
  have key : ∀ x ∈ fs, okB m x = numW x := fun x hx => by
    have h1 := List.any_eq_false.mp h x hx
    cases e : numW x with
    | none => rw [e] at h1; exact absurd rfl h1
    | some n =>
      have h2 := hs ((n : Nat) : Int) (by unfold valsN; exact List.mem_map.mpr ⟨x, hx, by rw [e]; rfl⟩)
      unfold okB
      rw [e]
      exact if_pos (by omega)
  refine ⟨?_, ?_⟩
  · rw [List.all_eq_true]
    intro x hx
    rw [key x hx]
    have h1 := List.any_eq_false.mp h x hx
    cases e : numW x with
    | none => rw [e] at h1; exact absurd rfl h1
    | some n => rfl
  · unfold valsB valsN
    exact List.map_congr_left fun x hx => by rw [key x hx]
theorem vals_all {m : Nat} {fs : List Str} (h : fs.all (fun z => (okB m z).isSome) = true) : (fs.any fun x => (numW x).isNone) = false ∧ (∀ y ∈ valsN fs, y < (m : Int)) ∧ valsB m fs = valsN fs := by
  have key : ∀ x ∈ fs, okB m x = numW x ∧ (numW x).isSome = true := fun x hx => by
    have h1 := List.all_eq_true.mp h x hx
    unfold okB at h1 ⊢
    cases e : numW x with
    | none => rw [e] at h1; cases h1
    | some n =>
      rw [e] at h1
      replace h1 : (if n < m then some n else none : Option Nat).isSome = true := h1
      by_cases hn : n < m
      · exact ⟨if_pos hn, rfl⟩
      · rw [if_neg hn] at h1; cases h1
  have e : valsB m fs = valsN fs := by
    unfold valsB valsN
    exact List.map_congr_left fun x hx => by rw [(key x hx).1]
  refine ⟨?_, fun y hy => ?_, e⟩
  · rw [List.any_eq_false]
    intro x hx
    have := (key x hx).2
    cases e : numW x with
    | none => rw [e] at this; cases this
    | some n => simp
  · rw [← e] at hy
    have := vals_rng h y hy
    omega
theorem vals_nn (fs : List Str) : ∀ y ∈ valsN fs, 0 ≤ y := fun y hy => by
  unfold valsN at hy
  obtain ⟨x, _, rfl⟩ := List.mem_map.mp hy
  exact Int.natCast_nonneg _
section
variable {K : PySem.W.Frag} {w : World} {σ : L2.St} {H : Hp}
theorem gvt_noneIn {j : Nat} {v : V} {fs : List Str} (hj : σ[j]? = some (some v)) (hv : Dp K H v (.list (fs.map dNum))) : GvT (tTest (tOp (rIn K false) (tC .non) (tVar j))) σ H (fs.any fun x => (numW x).isNone) := fun H1 s Q q => by
  obtain ⟨a, xs, rfl, hq, hr⟩ := (hv.sm s).lstI
  rw [dpAll_num _ _ hr] at hq
  refine ⟨.ref a, hj, a, _, rfl, .inl hq, rfl, flat_num fs, ?_⟩
  exact ⟨_, rfl, by rw [inV_num]; exact q _ (Same.refl _)⟩
theorem gvt_sorted {j : Nat} {v : V} {ns : List Int} {m : Nat} (hj : σ[j]? = some (some v)) (hv : Dp K H v (.list (ns.map PyData.int))) (rng : ∀ x ∈ ns, 0 ≤ x ∧ x < (m : Int)) (hm : m < 64) (hl : ns.length ≤ 1000) : GvT (tTest (tOp (rEqD K) (tVar j) (tCB (rSortedSet w) (tCons (tCB (rSetL' K w) (tCons (tVar j) tNil)) tNil)))) σ H (decide (ns.Pairwise (· < ·))) := fun H1 s Q q => by
  have hv1 := hv.sm s
  obtain ⟨a, xs, rfl, hq, hr⟩ := hv1.lstI
  rw [dpAll_intsV hr] at hq
  refine ⟨.ref a, hj, .ref a, hj, ?_⟩
  refine sortSet_of (w := w) (K := K) (vs := [.ref a]) (H := H1) (Q := fun y H2 => rEqD K (.ref a) y H2 fun x H3 => ∃ b, x = .bl b ∧ Q b H3) ⟨a, ns, m, rfl, hq, hl, hm, rng, fun ms p H' s' ep up mm np => ?_⟩
  have hms : Dp K H' (.ref p) (.list (ms.map PyData.int)) := .lst (.inl (.inl ep)) (dpAll_ints' ms)
  have shI : ∀ l : List Int, SeqAt.shaped (.list (l.map PyData.int)) = true := fun l => shp_of (by
    simp only [PyData.canLay0]
    induction l with
    | nil => rfl
    | cons x r ih => first | exact ih | simpa using ih) (by
    have : ∀ l : List Int, PyData.depthAll (l.map PyData.int) ≤ 1 := fun l => by
      induction l with
      | nil => decide
      | cons x r ih => simp only [List.map_cons, PyData.depthAll, PyData.depth]; omega
    have := this l
    simp only [PyData.depth]; omega)
  have eq : PyData.eqv (.list (ns.map PyData.int)) (.list (ms.map PyData.int)) = decide (ns.Pairwise (· < ·)) := by
    have : PyData.eqv (.list (ns.map PyData.int)) (.list (ms.map PyData.int)) = decide (ns = ms) := by
      simp only [PyData.eqv]
      exact eqv_intsL ns ms
    rw [this, Bool.eq_iff_iff, decide_eq_true_eq, decide_eq_true_eq]
    exact ⟨fun e => by rw [e]; exact up, fun h => asc_ext h up fun x => (mm x).symm⟩
  refine ⟨_, _, hv1.sm s', hms, shI ns, shI ms, _, rfl, ?_⟩
  rw [eq]
  exact q _ s'
end

def nLList : List Str := ["_law_word", "_law_index", "_law_many", "_law_spot", "_law_found", "_law_part", "_law_other"]
theorem scLList : FnScope nLList ["_law_word", "_law_index", "_law_many"] (defScope sLList) := ⟨rfl, rfl, rfl, by decide +kernel, rfl, by decide +kernel, by decide +kernel⟩
section
variable {P : Program} {w : World} {K : PySem.W.Frag} {mg : Str → Option Value} {base : Heap}
def spLList (K : PySem.W.Frag) : Sp := fun vs H Q _ => ∃ (x : Str) (i m : Nat), vs = [.str x, .int (i : Int), .int (m : Int)] ∧ x.length ≤ 640 ∧ i ≤ 1000 ∧ m < 64 ∧ ∀ H' v, Same H H' → Dp K H' v (dL (lstW m i x)) → Q v H'
theorem ok_LList {fNum : Addr} {fdNum : FuncData} {f : Addr} {fd : FuncData} {k : Nat} (F : Fun K "_law_list" "_law_list" sLList f fd)
    (FNum : Fun K "_law_number" "_law_number" sNum fNum fdNum) (bNum : Binds K fdNum ["_law_word"] []) (gNum : mg "_law_number" = some (.ref fNum))
    (m_int : mg "int" = none) (m_set : mg "set" = none) (m_sorted : mg "sorted" = none) (m_str : mg "str" = none) (m_tuple : mg "tuple" = none) : FnOk P w K mg base CX0 (k + 2) f fd ["_law_word", "_law_index", "_law_many"] (spLList K) := by
  have GNum : FnOk P w K mg base CX0 (k + 1) fNum fdNum ["_law_word"] (spNum K) := ok_Num FNum m_int
  refine F.ok scLList (fun vs H Q E h => ?_) (fun cdv A outer s H vs Q E hr h => ?_)
  · obtain ⟨x, i, m, rfl, _⟩ := h
    rfl
  · obtain ⟨x, i, m, rfl, hx, hi, hm, q⟩ := h
    refine ⟨_, pss_cons (ps_set (i := 3) scLList.nd rfl (.inl rfl) (pe_m1 PySem.F.slot_str_find PySem.F.type_str_find mt_find (pv 0) pe_str))
      (pss_cons (ps_if (PW.pt (pw_or (pt_cmpR op_lt (pv 3) pe_int (nomark _)) (pw_or1 (pt_cmpR op_ne (pe_slice (show SlR _ L2.rSlS from sl_str) (pv 0) po_none (po_some (pv 3))) (pe_callTy (show CallR _ _ rStrI from call_str_int) (by rfl) m_str (by decide +kernel) (pa_cons (pv 1) pa_nil)) (nomark _))))) (pss_one (ps_ret pe_non)) pss_nil)
      (pss_cons (ps_set (i := 4) scLList.nd rfl (.inl rfl) (pe_ifExp (pt_cmpR op_ne (pe_slice (show SlR _ L2.rSlS from sl_str) (pv 0) (po_some (pe_op op_add (pv 3) pe_int)) po_none) pe_str (nomark _)) (pe_lc (own := [("_law_part", 5)]) (g := gName 5) (tt := tYes) rfl scLList.nd (show PI _ _ _ (iList K _) from pi_list (pe_split (pe_slice (show SlR _ L2.rSlS from sl_str) (pv 0) (po_some (pe_op op_add (pv 3) pe_int)) po_none) pe_str)) (blkOk_by (own := [("_law_part", 5)]) (N := nLList) (sc := defScope sLList) (by decide +kernel)) (fun _ _ _ _ _ => pg_name (i := 5) scLList.nd rfl (Or.inl rfl)) (fun _ _ _ _ _ => pts_nil) (fun _ _ _ _ _ => pe_call GNum (hr.mono (by omega)) (by rfl) gNum FNum.kp bNum .nil pass0 (pa_cons (pv 5) pa_nil))) (pe_lst pa_nil)))
      (pss_cons (ps_if (PW.pt (pw_or (pt_cmpR (show OpR _ _ (rIn K false) from op_in_seq) pe_non (pv 4) (by rfl)) (pw_or (pt_cmpR (show OpR _ _ (rIn K false) from op_in_seq) (pv 1) (pv 4) (by rfl)) (pw_or1 (pt_cmpR (show OpR _ _ rNeE1 from op_neE1 hr.units) (pe_lc (own := [("_law_other", 6)]) (g := gName 6) rfl scLList.nd (show PI _ _ _ (iList K _) from pi_list (pv 4)) (blkOk_by (own := [("_law_other", 6)]) (N := nLList) (sc := defScope sLList) (by decide +kernel)) (fun _ _ _ _ _ => pg_name (i := 6) scLList.nd rfl (Or.inl rfl)) (fun _ _ _ _ _ => pts_one (pt_cmpR op_ge (pv 6) (pv 2) (nomark _))) (fun _ _ _ _ _ => pv 6)) (pe_lst pa_nil) (nomark _)))))) (pss_one (ps_ret pe_non)) pss_nil)
      (pss_one (ps_ret (pe_ifExp (pt_cmpR (show OpR _ _ (rEqD K) from op_eqD hr.units) (pv 4) (pe_callB (show CallR _ _ (rSortedSet w) from cr_sortedSet rfl) (by rfl) m_sorted (by decide +kernel) (pa_cons (pe_callTy (show CallR _ _ (rSetL' K w) from cr_setL rfl) (by rfl) m_set (by decide +kernel) (pa_cons (pv 4) pa_nil)) pa_nil)) (nomark _)) (pe_callTy (show CallR _ _ (rTupG K) from cr_tupG) (by rfl) m_tuple (by decide +kernel) (pa_cons (pv 4) pa_nil)) pe_non)))))), ?_⟩
    refine ⟨.str x, rfl, ⟨x, rfl⟩, x, (">" : Str), rfl, rfl, ?_⟩
    have dx : ∀ H, Dp K H (.str x) (.str x) := fun _ => .str x
    by_cases hneg : Txt.find x (">" : Str) < 0
    · have el : lstW m i x = none := by unfold lstW; rw [if_pos hneg]
      rw [el] at q
      refine gs_if1 (gvt_or (c := true) ((gvt_test (K := K) (gv_lt (gv_var (i := 3) rfl (.int _)) gv_int)).to (show decide (Txt.find x (">" : Str) < 0) = true from decide_eq_true hneg)) (fun Hy sy hb => by cases hb)) (fun _ H2 s2 => ?_) (fun hb H2 s2 => by cases hb)
      exact gs_ret gv_non fun v H3 s3 dv => q H3 v (s2.trans s3) dv
    obtain ⟨k, hk⟩ : ∃ k : Nat, Txt.find x (">" : Str) = (k : Int) := ⟨(Txt.find x (">" : Str)).toNat, (Int.toNat_of_nonneg (by omega)).symm⟩
    rw [hk]
    refine gs_if1 (b := !decide (cutS x none (some (k : Int)) = numT (i : Int))) ((gvt_or (b := false) ((gvt_test (K := K) (gv_lt (gv_var (i := 3) rfl (.int (k : Int))) gv_int)).to (decide_eq_false (by omega))) (fun Hy sy _ => gvt_test (K := K) (gv_neS (gv_cutST (gv_var (i := 0) rfl (dx _)) (gv_var (i := 3) rfl (.int (k : Int))) (by omega)) (gv_numS (gv_var (i := 1) rfl (.int (i : Int))) (by omega) (by omega))))).to (by rw [Bool.false_or])) (fun hb H2 s2 => ?_) (fun hb H2 s2 => ?_)
    · have el : lstW m i x = none := by
        unfold lstW
        rw [if_neg hneg, hk, if_pos (by simpa using hb)]
      rw [el] at q
      exact gs_ret gv_non fun v H3 s3 dv => q H3 v (s2.trans s3) dv
    have hb : cutS x none (some (k : Int)) = numT (i : Int) := by simpa using hb
    have el : lstW m i x = (if okL m i (partsR (cutS x (some ((k : Int) + 1)) none)) = true then some (valsB m (partsR (cutS x (some ((k : Int) + 1)) none))) else none) := by
      unfold lstW
      rw [if_neg hneg, hk, if_neg (fun z => z hb)]
    rw [el] at q
    have hrl : (cutS x (some ((k : Int) + 1)) none).length ≤ 640 := Nat.le_trans (cutS_length x _ _) hx
    have sp1 : ∀ H' : Hp, Gv K (tSl L2.rSlS (tVar 0) (tPart (tOp _ (tVar 3) (tC (.int 1)))) tNoPart) [some (.str x), some (.int (i : Int)), some (.int (m : Int)), some (.int (k : Int)), none, none, none] H' (.str (cutS x (some ((k : Int) + 1)) none)) := fun H' => gv_cutSF (gv_var (i := 0) rfl (dx _)) (gv_add (gv_var (i := 3) rfl (.int (k : Int))) gv_int) (by omega)
    generalize cutS x (some ((k : Int) + 1)) none = rest at q hrl sp1
    have hfl : (partsR rest).length ≤ 641 ∧ ∀ z ∈ partsR rest, z.length ≤ 640 := by
      unfold partsR
      split
      · exact ⟨by decide, fun z hz => by cases hz⟩
      · have h1 := split_tot sep_co rest
        have h2 := tot_len (Txt.split rest ("," : Str))
        exact ⟨by omega, fun z hz => by have := tot_mem hz; omega⟩
    refine gs_set1 (K := K) ((gv_if (gvt_test (gv_neS (sp1 _) gv_str)) (fun hb => (gn_lc (K := K) (δ := PyData.str) (as := Txt.split rest ("," : Str)) (p := fun _ => true) (f := dNum) (gvi_list (gn_split rfl (sp1 _) gv_str (by decide +kernel) (by omega)).gv) (fun z vz Hz hz sz dz => ⟨gvt_yes, fun _ => gv_Num (gva_cons (gv_var (i := 5) rfl dz) gva_nil) (by
        have h1 := split_tot sep_co rest
        have h2 := tot_mem hz
        omega)⟩) (fun _ _ => lf_num _) (by
        have h1 := split_tot sep_co rest
        have h2 := tot_len (Txt.split rest ("," : Str))
        omega)).gv) (fun _ => gv_lst gva_nil)).to (e := .list ((partsR rest).map dNum)) (by
      unfold partsR
      by_cases ex : rest = ("" : Str)
      · rw [if_neg (by rw [decide_eq_true ex]; exact Bool.false_ne_true), if_pos ex]; rfl
      · rw [if_pos (by rw [decide_eq_false ex]; rfl), if_neg ex, List.filter_eq_self.mpr (fun _ _ => rfl)])) fun vF H3 s3 dF => ?_
    generalize partsR rest = fs at q dF hfl
    have s03 := s2.trans s3
    obtain ⟨nb, hnb⟩ : ∃ nb, nb = (fs.any fun x => (numW x).isNone) := ⟨_, rfl⟩
    have no : ∀ {l}, okL m i fs = true → (fs.any fun x => (numW x).isNone) = false ∧ (∀ y ∈ valsN fs, y < (m : Int)) ∧ valsB m fs = valsN fs ∧ (i : Int) ∉ valsN fs ∧ (valsN fs).Pairwise (· < ·) ∧ l = l := fun {l : Nat} h => by
      unfold okL at h
      rw [Bool.and_eq_true, Bool.and_eq_true] at h
      obtain ⟨⟨h1, h2⟩, h3⟩ := h
      obtain ⟨a1, a2, a3⟩ := vals_all h1
      rw [a3] at h2 h3
      exact ⟨a1, a2, a3, by simpa using h3, of_decide_eq_true h2, rfl⟩
    refine gs_if1 (b := (fs.any fun x => (numW x).isNone) || (decide ((i : Int) ∈ valsN fs) || !((valsN fs).filter fun y => decide ((m : Int) ≤ y)).isEmpty)) (gvt_or (gvt_noneIn (K := K) (j := 4) rfl dF) (fun Hy sy hb => ?_)) (fun hb H4 s4 => ?_) (fun hb H4 s4 => ?_)
    · have dF2 := dF.sm sy
      rw [num_vals hb] at dF2
      refine gvt_or (gvt_test (K := K) (gv_inL (gv_var (i := 1) rfl (.int _)) (gv_var (i := 4) rfl dF2))) (fun Hz sz _ => (gvt_test (K := K) (gv_neEL (gn_lc (K := K) (δ := PyData.int) (as := valsN fs) (p := fun y => decide ((m : Int) ≤ y)) (f := PyData.int) (gvi_list (gv_var (i := 4) rfl (dF2.sm sz))) (fun y vy Hx hy sx dy => ⟨gvt_test (gv_geI (gv_var (i := 6) rfl dy) (gv_var (i := 2) rfl (.int (m : Int)))), fun _ => gv_var (i := 6) rfl dy⟩) (fun _ _ => rfl) (by unfold valsN; rw [List.length_map]; omega)))).to (by rw [List.isEmpty_map]))
    · have hno : ¬ okL m i fs = true := fun h => by
        obtain ⟨a1, a2, a3, a4, a5, _⟩ := no (l := 0) h
        rw [a1, Bool.false_or, decide_eq_false a4, Bool.false_or] at hb
        cases hf : (valsN fs).filter fun y => decide ((m : Int) ≤ y) with
        | nil => rw [hf] at hb; cases hb
        | cons y r =>
          have : y ∈ (valsN fs).filter fun y => decide ((m : Int) ≤ y) := by rw [hf]; exact List.mem_cons_self
          obtain ⟨h1, h2⟩ := List.mem_filter.mp this
          have := a2 y h1
          have := of_decide_eq_true h2
          omega
      rw [if_neg hno] at q
      exact gs_ret gv_non fun v H5 s5 dv => q H5 v (s03.trans (s4.trans s5)) dv
    rw [Bool.or_eq_false_iff, Bool.or_eq_false_iff] at hb
    obtain ⟨b1, b2, b3⟩ := hb
    have b2 := of_decide_eq_false b2
    have b3 : ∀ y ∈ valsN fs, y < (m : Int) := fun y hy => by
      refine Classical.byContradiction fun z => ?_
      have : y ∈ (valsN fs).filter fun y => decide ((m : Int) ≤ y) := List.mem_filter.mpr ⟨hy, decide_eq_true (by omega)⟩
      cases hf : (valsN fs).filter fun y => decide ((m : Int) ≤ y) with
      | nil => rw [hf] at this; cases this
      | cons a r => rw [hf] at b3; cases b3
    obtain ⟨c1, c2⟩ := vals_small b1 b3
    have dF2 := dF.sm s4
    rw [num_vals b1] at dF2
    have eok : okL m i fs = decide ((valsN fs).Pairwise (· < ·)) := by
      unfold okL
      rw [c1, c2, Bool.true_and, decide_eq_false b2]; simp
    rw [eok, c2] at q
    refine gs_ret (K := K) ((gv_if (gvt_sorted (K := K) (w := w) (j := 4) (m := m) rfl dF2 (fun y hy => ⟨vals_nn fs y hy, b3 y hy⟩) hm (by unfold valsN; rw [List.length_map]; omega)) (fun _ => gv_tupL (gv_var (i := 4) rfl dF2)) (fun _ => gv_non))) fun v H5 s5 dv => q H5 v (s03.trans (s4.trans s5)) ?_
    by_cases hp : (valsN fs).Pairwise (· < ·)
    · rw [if_pos (decide_eq_true hp)] at dv ⊢
      exact dv
    · rw [if_neg (by rw [decide_eq_false hp]; exact Bool.false_ne_true)] at dv ⊢
      exact dv
end
end K61
namespace K61
open PySem PySem.Spec PyProof.Rows L2 Pr

theorem gs_parQ {σ : L2.St} {H : Hp} {ta : TA} {i j : Nat} {u : TS} {D : Ends} (h : ta σ H fun vs H' => ∃ v z, vs = [v, z] ∧ u D ((σ.set i (some v)).set j (some z)) H') : tSeq (tPar i j ta) u D σ H := h
theorem tconsN_at {K : PySem.W.Frag} {t : TE} {tr : TA} {σ : L2.St} {H : Hp} {ds : List PyData} {Q : List V → Hp → Prop} (h : GvN K t σ H ds) (q : ∀ a vs H', Same H H' → H a = none → H' a = some (.lst vs) → DpAll K H' vs ds → tr σ H' fun us H2 => Q (.ref a :: us) H2) : tCons t tr σ H Q := h.at fun a vs H' s n e dv => q a vs H' s n e dv
theorem ret_op {K : PySem.W.Frag} {r : R2} {ta tb : TE} {σ : L2.St} {H : Hp} {d : PyData} {D : Ends} (h : Gv K ta σ H d) (q : ∀ x H1, Same H H1 → Dp K H1 x d → tb σ H1 fun y H2 => r x y H2 D.rt) : tRet (tOp r ta tb) D σ H := h.at q
theorem apart_s {H : Hp} {a c r b : Addr} {m : Nat} {xs : List Str} (h : Dk3 H a c r m) (e : H b = some (.lst (xs.map V.str))) (hne : xs ≠ []) : b ≠ a ∧ b ≠ r := by
  obtain ⟨cells, rests, n, ha, hc, hr, _, _, _, l1, _, l3, _⟩ := h
  obtain ⟨x, l, rfl⟩ := List.exists_cons_of_ne_nil hne
  refine ⟨ne_of e ha (by intro z; injection z with z; injection z with z; cases z), ne_of e hr fun z => ?_⟩
  injection z with z
  cases rests with
  | nil => rw [← l3] at l1; cases l1
  | cons y rr => injection z with z; cases z

def nDue : List Str := ["_law_value", "_law_words", "_law_found", "_law_index", "_law_word", "_law_released"]
theorem scDue : FnScope nDue ["_law_value"] (defScope sDue) := ⟨rfl, rfl, rfl, by decide +kernel, rfl, by decide +kernel, by decide +kernel⟩
section
variable {P : Program} {w : World} {K : PySem.W.Frag} {mg : Str → Option Value} {base : Heap}
def spDue (K : PySem.W.Frag) : Sp := fun vs H Q _ => ∃ (N : Addr → Prop) (v : V) (d : PyData), vs = [v] ∧ Dq K N H v d ∧ (∀ x, d = .str x → x.length ≤ 640 ∧ spn x < 63) ∧ ∀ H' u, Same H H' → Dp K H' u (resP d) → Q u H'
theorem ok_Due {fNum : Addr} {fdNum : FuncData} {fLList : Addr} {fdLList : FuncData} {f : Addr} {fd : FuncData} {k : Nat} (F : Fun K "_law_panel_due" "_law_panel_due" sDue f fd)
    (FNum : Fun K "_law_number" "_law_number" sNum fNum fdNum) (bNum : Binds K fdNum ["_law_word"] []) (gNum : mg "_law_number" = some (.ref fNum))
    (FLList : Fun K "_law_list" "_law_list" sLList fLList fdLList) (bLList : Binds K fdLList ["_law_word", "_law_index", "_law_many"] []) (gLList : mg "_law_list" = some (.ref fLList))
    (m_enumerate : mg "enumerate" = none) (m_int : mg "int" = none) (m_isinstance : mg "isinstance" = none) (m_len : mg "len" = none) (m_set : mg "set" = none) (m_sorted : mg "sorted" = none) (m_str : mg "str" = none) (m_tuple : mg "tuple" = none) : FnOk P w K mg base CX0 (k + 3) f fd ["_law_value"] (spDue K) := by
  have GLList : FnOk P w K mg base CX0 (k + 2) fLList fdLList ["_law_word", "_law_index", "_law_many"] (spLList K) := ok_LList FLList FNum bNum gNum m_int m_set m_sorted m_str m_tuple
  refine F.ok scDue (fun vs H Q E h => ?_) (fun cdv A outer s H vs Q E hr h => ?_)
  · obtain ⟨N, v, d, rfl, _⟩ := h
    rfl
  · obtain ⟨N, v, d, rfl, hd, hl, q⟩ := h
    refine ⟨_, pss_cons (ps_if (pt_not (pt_val (pe_callB (show CallR _ _ (rIsi K) from call_isi) (by rfl) m_isinstance (by decide +kernel) (pa_cons (pv 0) (pa_cons (pe_bltn (v := .ty "str") (by rfl) m_str (by decide +kernel) rfl) pa_nil))))) (pss_one (ps_ret (pe_lst (pa_cons pe_non pa_nil)))) pss_nil)
      (pss_cons (ps_par (i := 1) (j := 2) rfl scDue.nd rfl rfl (by decide) rfl rfl (pa_cons (pe_split (pv 0) pe_str) (pa_cons (pe_lst pa_nil) pa_nil)) (by rfl))
      (pss_cons (ps_for PassesOwn.never rfl (pi_enum (by rfl) m_enumerate (pa_cons (pv 1) pa_nil)) (pg_tup rfl (pgs_cons (pg_name (i := 3) scDue.nd rfl (Or.inl rfl)) (pgs_cons (pg_name (i := 4) scDue.nd rfl (Or.inl rfl)) pgs_nil))) (pss_cons (ps_set (i := 5) scDue.nd rfl (.inl rfl) (pe_call GLList (hr.mono (by omega)) (by rfl) gLList FLList.kp bLList .nil pass0 (pa_cons (pv 4) (pa_cons (pv 3) (pa_cons (pe_callB (show CallR _ _ (rLenG K) from cr_lenG) (by rfl) m_len PySem.boot_len (pa_cons (pv 1) pa_nil)) pa_nil)))))
      (pss_cons (ps_if (PW.pt (pw_or (pt_cmpR op_isN (pv 5) pe_non (by rfl)) (pw_or1 (pt_cmpR op_eq (pv 3) pe_int (nomark _))))) (pss_one (ps_ret (pe_lst (pa_cons (pv 3) pa_nil)))) pss_nil)
      (pss_one (ps_expr (show PE _ _ (tBM K "list" rAppend _ _) from pe_bm PySem.F.plainAttrs_list PySem.F.slot_list_append PySem.F.type_list_append mt_append (pv 2) (pa_cons (pv 5) pa_nil)))))))
      (pss_one (ps_ret (pe_callTy (show CallR _ _ (rTupG K) from cr_tupG) (by rfl) m_tuple (by decide +kernel) (pa_cons (pv 2) pa_nil)))))), ?_⟩
    refine ⟨v, rfl, v, .ty "str", _, _, _, rfl, .ty "str", hd.ty, isS_kit d, _, rfl, ?_⟩
    cases e : isS d with
    | false =>
      have er : resP d = .list [.none] := by cases d <;> first | rfl | cases e
      refine iteT (gs_ret (K := K) (gv_lst (gva_cons gv_non gva_nil)) fun u H2 s2 du => q H2 u s2 (by rw [er]; exact du))
    | true =>
      obtain ⟨x, rfl⟩ : ∃ x, d = .str x := by
        cases d <;> first | exact ⟨_, rfl⟩ | cases e
      cases hd
      obtain ⟨hx, hsp⟩ := hl x rfl
      refine iteF ?_
      have dx : Dp K H (.str x) (.str x) := .str x
      have hcnt := (split_cnt x).1
      have wl : ∀ z ∈ Txt.split x (" " : Str), z.length ≤ 640 := fun z hz => by
        have h1 := split_tot sep_sp x
        have h2 := tot_mem hz
        omega
      have er : resP (.str x) = (match badP (Txt.split x (" " : Str)).length 0 (Txt.split x (" " : Str)) with | some i => .list [.int (i : Int)] | none => dPan (valsP (Txt.split x (" " : Str)).length (Txt.split x (" " : Str)))) := rfl
      unfold tNext
      dsimp only
      refine gs_parQ ?_
      refine tconsN_at (K := K) (gn_split rfl (gv_var (i := 0) rfl dx) gv_str (by decide +kernel) (by omega)) fun W vW H1 s1 nW eW dW => ?_
      have evW := dpAll_strJ dW
      subst evW
      generalize Txt.split x (" " : Str) = ws at eW dW hcnt wl er
      have wn : ws.length ≤ 63 := by omega
      refine ⟨Nat.zero_le _, fun R nR => ⟨_, _, rfl, ?_⟩⟩
      have sR := same_new (o := HO.lst []) nR
      have eW2 := sR _ _ eW
      have WR : W ≠ R := ne_of_none eW nR
      have nR0 : H R = none := s1.free nR
      have eR : (upd H1 R (.lst [])) R = some (.lst []) := upd_same
      have s02 := s1.trans sR
      generalize upd H1 R (.lst []) = H2 at sR eW2 eR s02 ⊢
      refine ⟨.ref W, rfl, W, _, rfl, .inl (.inl eW2), ?_⟩
      refine for_it (walk_enum (xs := ws.map V.str)) (fun i σ H' => (∀ b o, b ≠ R → H2 b = some o → H' b = some o) ∧ Kp H2 H' ∧ (∃ vs, H' R = some (.lst vs) ∧ DpAll K H' vs ((valsP ws.length (ws.take i)).map dInts)) ∧ (∀ j z, j < i → ws[j]? = some z → okP ws.length j z) ∧ ∃ x3 x4 x5, σ = [some (.str x), some (.ref W), some (.ref R), x3, x4, x5])
        ⟨fun _ _ _ eb => eb, Kp.refl _, ⟨[], eR, by rw [List.take_zero]; exact .nil⟩, fun j z h => absurd h (Nat.not_lt_zero _), _, _, _, rfl⟩ (fun i σ H' _ hP => .inl (.inl (hP.1 _ _ WR eW2))) (fun i u σ H6 H7 hi hP hY => ?_) (fun σ H6 hP => ?_)
      · obtain ⟨b6, k6, ⟨vs, eR6, dR6⟩, hok, x3, x4, x5, rfl⟩ := hP
        obtain ⟨Te, y1, y2, rfl, nT, rfl, e1, e2⟩ := hY
        cases e1
        obtain ⟨z, hz, rfl⟩ := str_get e2
        have il : i < ws.length := (List.getElem?_eq_some_iff.mp hz).1
        have sT : Same H6 (upd H6 Te (.tup [.int (i : Nat), .str z])) := same_new nT
        refine ⟨Te, _, rfl, .inl (.inl upd_same), rfl, _, _, rfl, _, _, rfl, rfl, ?_⟩
        have eR7 := sT _ _ eR6
        have eW7 := sT _ _ (b6 _ _ WR eW2)
        have b7 : ∀ b o, b ≠ R → H2 b = some o → (upd H6 Te (.tup [.int (i : Nat), .str z])) b = some o := fun b o hb eb => sT _ _ (b6 b o hb eb)
        have k7 := k6.trans (Kp.of sT)
        have dR7 := dR6.sm sT
        generalize upd H6 Te (.tup [.int (i : Nat), .str z]) = H7 at eR7 eW7 b7 k7 dR7 ⊢
        have bad : (lstW ws.length i z = none ∨ i = 10) → resP (.str x) = .list [.int (i : Int)] := fun hb => by rw [er, badP_at hz hok hb]
        have s07 : Same H H7 := fun b o eb => b7 b o (ne_of_none eb nR0) (s02 _ _ eb)
        refine ⟨.str z, rfl, .int (i : Nat), rfl, (gv_lenL1 (K := K) (i := 1) rfl eW7).at fun vn H9 s9 dn => ?_⟩
        cases dn
        rw [List.length_map]
        refine ⟨z, i, ws.length, rfl, wl z (List.mem_of_getElem? hz), by omega, by omega, fun H8 v8 s98 d8 => ?_⟩
        have s8 := s9.trans s98
        have s08 := s07.trans s8
        have eR8 := s8 _ _ eR7
        cases ho : lstW ws.length i z with
        | none =>
          rw [ho] at d8
          refine gs_if (gvt_or (b := true) (c := false) (gvt_test (K := K) (gv_isN (gv_var (i := 5) rfl d8) rfl)) (fun Hy sy hb => by cases hb)) (fun _ H9 s9 => ?_) (fun hb H9 s9 => by cases hb)
          refine gs_ret (K := K) (gv_lst (gva_cons (gv_var (i := 3) rfl (.int _)) gva_nil)) fun u' H10 s10 du' => q H10 u' (s08.trans (s9.trans s10)) ?_
          rw [bad (.inl ho)]
          exact du'
        | some l =>
          rw [ho] at d8
          have d8' : Dp K H8 v8 (dInts l) := d8
          refine gs_if (gvt_or (gvt_test (K := K) (gv_isN (d := dInts l) (gv_var (i := 5) rfl d8') rfl)) (fun Hy sy _ => gvt_test (K := K) (gv_eqI (gv_var (i := 3) rfl (.int (i : Nat))) gv_int))) (fun hb H9 s9 => ?_) (fun hb H9 s9 => ?_)
          · refine gs_ret (K := K) (gv_lst (gva_cons (gv_var (i := 3) rfl (.int _)) gva_nil)) fun u' H10 s10 du' => q H10 u' (s08.trans (s9.trans s10)) ?_
            have hb : (false || decide ((i : Int) = 10)) = true := hb
            rw [Bool.false_or, decide_eq_true_eq] at hb
            rw [bad (.inr (by omega))]
            exact du'
          · have hb : (false || decide ((i : Int) = 10)) = false := hb
            rw [Bool.false_or, decide_eq_false_iff_not] at hb
            have eR9 := s9 _ _ eR8
            have s89 := s8.trans s9
            have d9' := d8'.sm s9
            obtain ⟨a8, rfl, hq8⟩ := d9'.intsI
            refine ⟨.ref R, rfl, .inl ⟨rfl, _, .inl (.inl eR9)⟩, .ref a8, rfl, ?_⟩
            refine ⟨R, _, .ref a8, rfl, rfl, eR9, ?_, ?_⟩
            · have := dR7.length
              unfold valsP at this
              rw [List.length_map, List.length_map, List.length_zipIdx, List.length_take] at this
              exact small1000 (by omega)
            · have kU : Kp H9 (upd H9 R (.lst (vs ++ [.ref a8]))) := Kp.upd eR9
              refine ⟨fun c o hc eb => by rw [upd_ne hc]; exact s89 _ _ (b7 c o hc eb), (k7.trans (Kp.of s89)).trans kU, ⟨_, upd_same, ?_⟩, fun j z' hj hz' => ?_, _, _, _, rfl⟩
              · rw [valsP_take hz, ho, List.map_append]
                exact (dpAll_kp kU _ _ (lfAll_of fun d hd => by obtain ⟨l, _, rfl⟩ := List.mem_map.mp hd; exact lf_ints l) (dR7.sm s89)).append (.cons (d9'.kp kU) .nil)
              · rcases Nat.lt_or_ge j i with h | h
                · exact hok j z' h hz'
                · have : j = i := by omega
                  subst this
                  rw [hz] at hz'
                  cases hz'
                  intro hb'
                  rcases hb' with hb' | hb'
                  · rw [ho] at hb'; cases hb'
                  · exact hb (by omega)
      · obtain ⟨b6, k6, ⟨vs, eR6, dR6⟩, hok, x3, x4, x5, rfl⟩ := hP
        rw [List.length_map, List.take_length] at dR6
        rw [List.length_map] at hok
        have hbad : badP ws.length 0 ws = none := badP_all fun j z hz => hok j z (List.getElem?_eq_some_iff.mp hz).1 hz
        have s06 : Same H H6 := fun b o eb => b6 b o (ne_of_none eb nR0) (s02 _ _ eb)
        refine ⟨.ref R, rfl, R, _, rfl, .inl ⟨.inl (.inl eR6), fun Te nT => ?_⟩⟩
        refine q _ _ (s06.trans (same_new nT)) ?_
        rw [er, hbad]
        exact (.tup (.inl (.inl upd_same)) (dR6.sm (same_new nT)))
end
end K61
namespace K61
open PySem PySem.Spec PyProof.Rows L2 Pr

def nTold : List Str := ["_law_value", "_law_others", "error"]
theorem scTold : FnScope nTold ["_law_value"] (defScope sTold) := ⟨rfl, rfl, rfl, by decide +kernel, rfl, by decide +kernel, by decide +kernel⟩
/-- what the top says of the classes, for the law's try -/
structure TryTxt (K : PySem.W.Frag) (mg : Str → Option Value) (C CP CB CR CS : Addr) : Prop where
  exc : ExcC K C
  xf : XfC K C
  gP : mg "PanelError" = some (.ref CP)
  gB : mg "BadPanel" = some (.ref CB)
  gR : mg "BadRow" = some (.ref CR)
  gS : mg "BadState" = some (.ref CS)
  m1 : PySem.W.exmOne K (.ref C) (.ref CP) = some true
  k3 : PySem.W.kitAny K (.ref C) [.ref CB, .ref CR, .ref CS, .type "LookupError"] = some false
section
variable {P : Program} {w : World} {K : PySem.W.Frag} {mg : Str → Option Value} {base : Heap}

def spTold (K : PySem.W.Frag) : Sp := fun vs H Q _ => ∃ (N : Addr → Prop) (v : V) (d : PyData), vs = [v] ∧ Dq K N H v d ∧ (∀ x, d = .str x → x.length ≤ 999) ∧ ∀ H' u, Same H H' → Dp K H' u (resP d) → Q u H'
def t_held (K : PySem.W.Frag) (C CB CR CS : Addr) : Addr → Value → Option Addr → TS := fun a cls d =>
  tSeq (tAsg (tCB (rIsYT K C a cls d) (tCons (tVar 2) (tCons (tTup (tCons (tC (.ref CB)) (tCons (tC (.ref CR)) (tCons (tC (.ref CS)) (tCons (tC (.ty "LookupError")) tNil))))) tNil))) (gName 1))
  (tRet (tIf (tAnd (tB (tCB (rIsY K C a cls d) (tCons (tVar 2) (tCons (tC (.ref C)) tNil)))) (tNot (tB (tVar 1)))) (tLst (tCons (tXf a cls d C "index" (tVar 2)) tNil)) (tLst (tCons (tC (.str "other")) tNil))))
theorem ok_Told {f fParse fWordsOf fByText fBtn fBtnT fPList C CP CB CR CS fI : Addr} {fd fdParse fdWordsOf fdByText fdBtn fdBtnT fdPList fdI : FuncData} {k : Nat} {tk : Tok} (F : Fun K "_law_told" "_law_told" sTold f fd)
    (FWordsOf : Fun K "words_of" "words_of" sWordsOf fWordsOf fdWordsOf) (bWordsOf : Binds K fdWordsOf ["value"] []) (gWordsOf : mg "words_of" = some (.ref fWordsOf))
    (FByText : Fun K "buttons_by_text" "buttons_by_text" sByText fByText fdByText) (bByText : Binds K fdByText ["many"] []) (gByText : mg "buttons_by_text" = some (.ref fByText))
    (FBtn : Fun K "is_button" "is_button" sBtn fBtn fdBtn) (bBtn : Binds K fdBtn ["value", "many"] []) (gBtn : mg "is_button" = some (.ref fBtn))
    (FBtnT : Fun K "is_button_tuple" "is_button_tuple" sBtnT fBtnT fdBtnT) (bBtnT : Binds K fdBtnT ["value", "many"] []) (gBtnT : mg "is_button_tuple" = some (.ref fBtnT))
    (FPList : Fun K "parse_list" "parse_list" sPList fPList fdPList) (bPList : Binds K fdPList ["word", "button", "buttons"] []) (gPList : mg "parse_list" = some (.ref fPList))
    (FParse : Fun K "parse_panel" "parse_panel" sParse fParse fdParse) (bParse : Binds K fdParse ["value"] []) (gParse : mg "parse_panel" = some (.ref fParse))
    (m_LookupError : mg "LookupError" = none) (m_bool : mg "bool" = none) (m_enumerate : mg "enumerate" = none) (m_int : mg "int" = none) (m_isinstance : mg "isinstance" = none) (m_len : mg "len" = none) (m_range : mg "range" = none) (m_str : mg "str" = none) (m_tuple : mg "tuple" = none) (T : ExF K mg "BadText" "index" "BadText.__init__" sInitT C fI fdI) (Y : TryTxt K mg C CP CB CR CS) (y_MAX_BUTTONS : mg "MAX_BUTTONS" = some (.int 10 tk)) : FnOk P w K mg base CX0 (k + 5) f fd ["_law_value"] (spTold K) := by
  have GC : FnOk P w K mg base (L2.CX P w) (k + 4) fParse fdParse ["value"] (spParse K C) := ok_Parse FParse T FWordsOf bWordsOf gWordsOf FByText bByText gByText FBtn bBtn gBtn FBtnT bBtnT gBtnT FPList bPList gPList m_bool m_enumerate m_int m_isinstance m_len m_range m_str m_tuple y_MAX_BUTTONS
  refine F.ok scTold (fun vs H Q E h => ?_) (fun cdv A outer s H vs Q E hr h => ?_)
  · obtain ⟨N, v, d, rfl, _⟩ := h
    rfl
  · obtain ⟨N, v, d, rfl, hd, hl, q⟩ := h
    refine ⟨_, pss_one (ps_try_as (i := 2) (tb := fun W => tRet (tCallS (spParse K C) (WE W) (tCons (tVar 0) tNil))) (ts := t_held K C CB CR CS) (Wout := fun _ _ _ _ => False) rfl rfl scTold.nd rfl rfl ⟨rfl, by decide, Or.inl Y.gP⟩ takes0
        (fun W pn xe tk _ => pss_one (ps_ret (by exact (pe_callS GC hr rfl gParse FParse.kp bParse (fun σ => passAt tk σ) (by exact (pa_cons (pv 0) pa_nil))))))
        (fun a oe cls d pn hz hf => pss_cons (ps_set (i := 1) scTold.nd rfl (.inl rfl) (pe_callB (call_isYT Y.exc hz hf) (by rfl) m_isinstance (by decide +kernel) (pa_cons (pv 2) (pa_cons (pe_tup (pa_cons (pe_glob (v := .ref CB) (by rfl) Y.gB rfl) (pa_cons (pe_glob (v := .ref CR) (by rfl) Y.gR rfl) (pa_cons (pe_glob (v := .ref CS) (by rfl) Y.gS rfl) (pa_cons (pe_bltn (v := .ty "LookupError") (by rfl) m_LookupError (by decide +kernel) rfl) pa_nil))))) pa_nil))))
          (pss_one (ps_ret (pe_ifExp (PW.pt (pw_and (pt_val (pe_callB (call_isY Y.exc hz hf) (by rfl) m_isinstance (by decide +kernel) (pa_cons (pv 2) (pa_cons (pe_glob (v := .ref C) (by rfl) T.g rfl) pa_nil))))
            (pw_and1 (pt_not (pt_val (pv 1)))))) (pe_lst (pa_cons (pe_xf Y.xf T.noN hz hf (pv 2)) pa_nil)) (pe_lst (pa_cons pe_str pa_nil))))))), ?_⟩
    have fail : ∀ (y : V) (H1 : Hp) (dd : Addr), Same H H1 → H1 dd = some (.xd [("index", y)]) → (∀ l H2, Same H1 H2 → H2 l = some (.lst [y]) → Q (.ref l) H2) → ∀ a, t_held K C CB CR CS a (.ref C) (some dd) { nx := fun x H' => Q .non H', rt := Q } [some v, none, some (.ref a)] H1 := fun y H1 dd s1 ea qL a => by
      refine ⟨.ref a, rfl, by show 4 ≤ sizeLine; decide, fun tp ntp => ?_⟩
      have sT : Same H1 (upd H1 tp (.tup [.ref CB, .ref CR, .ref CS, .ty "LookupError"])) := same_new ntp
      refine ⟨⟨rfl, .inr ⟨dd, _, rfl, sT _ _ ea⟩⟩, tp, _, [.ref CB, .ref CR, .ref CS, .type "LookupError"], false, rfl, upd_same, .cons (.own CB) (.cons (.own CR) (.cons (.own CS) (.cons (.ty _) .nil))), Y.k3, ?_⟩
      refine ⟨.ref a, rfl, ⟨rfl, .inr ⟨dd, _, rfl, sT _ _ ea⟩⟩, .ref C, .ref C, true, rfl, .own C, kit_selfY, true, rfl, iteT ?_⟩
      refine ⟨.bl false, rfl, false, rfl, iteT ?_⟩
      refine ⟨.ref a, rfl, rfl, rfl, dd, _, _, rfl, sT _ _ ea, rfl, by show 1 ≤ sizeLine; decide, fun l nl => ?_⟩
      exact qL l _ (sT.trans (same_new nl)) upd_same
    refine ⟨v, rfl, N, v, d, rfl, hd, hl, fun x hx hb H1 u s1 du => ?_, fun x i hx hb H1 dd s1 ea => ?_, fun hs H1 dd s1 ea => ?_⟩
    · subst hx
      refine q H1 _ s1 ?_
      have : resP (.str x) = dPan (valsP (Txt.split x (" " : Str)).length (Txt.split x (" " : Str))) := by
        show (match badP (Txt.split x (" " : Str)).length 0 (Txt.split x (" " : Str)) with | some i => PyData.list [.int (i : Int)] | none => dPan (valsP (Txt.split x (" " : Str)).length (Txt.split x (" " : Str)))) = _
        rw [hb]
      rw [this]
      exact du
    · subst hx
      refine ⟨true, Y.m1, fun _ a na => ?_, fun z => Bool.noConfusion z⟩
      refine fail _ H1 dd s1 ea (fun l H2 s2 el => q H2 _ (s1.trans s2) ?_) a
      have : resP (.str x) = .list [.int (i : Int)] := by
        show (match badP (Txt.split x (" " : Str)).length 0 (Txt.split x (" " : Str)) with | some i => PyData.list [.int (i : Int)] | none => dPan (valsP (Txt.split x (" " : Str)).length (Txt.split x (" " : Str)))) = _
        rw [hb]
      rw [this]
      exact .lst (.inl (.inl el)) (.cons (.int _) .nil)
    · refine ⟨true, Y.m1, fun _ a na => ?_, fun z => Bool.noConfusion z⟩
      refine fail _ H1 dd s1 ea (fun l H2 s2 el => q H2 _ (s1.trans s2) ?_) a
      have : resP d = .list [.none] := by cases d <;> first | rfl | cases hs
      rw [this]
      exact .lst (.inl (.inl el)) (.cons .non .nil)
end

end K61
namespace K61
open PySem PySem.Spec PyProof.Rows L2 Pr

theorem dpAll_strsD {K : PySem.W.Frag} {H : Hp} (l : List Str) : DpAll K H (l.map V.str) (l.map PyData.str) := by
  induction l with
  | nil => exact .nil
  | cons x l ih => exact .cons (.str x) ih





def nLPanT : List Str := ["_law_panel_here", "_law_words", "_law_button", "_law_other"]
theorem scLPanT : FnScope nLPanT ["_law_panel_here"] (defScope sLPanT) := ⟨rfl, rfl, rfl, by decide +kernel, rfl, by decide +kernel, by decide +kernel⟩
section
variable {P : Program} {w : World} {K : PySem.W.Frag} {mg : Str → Option Value} {base : Heap}
def spLPanT (K : PySem.W.Frag) : Sp := spP K (fun x : List (List Int) => [dPan x]) (fun x => OkT x) (fun x => .str (panT x))
theorem gv_LPanT {σ : L2.St} {H : Hp} {t : TA} {E : XK} {pan : List (List Int)} (h : GvA K t σ H [dPan pan]) (hc : OkT pan) : Gv K (tCall (spLPanT K) [] E t) σ H (.str (panT pan)) := gv_call (K := K) (δ := fun x : List (List Int) => [dPan x]) (C := fun x => OkT x) (f := fun x => .str (panT x)) pan h hc
theorem ok_LPanT  {f : Addr} {fd : FuncData} {k : Nat} (F : Fun K "_law_panel_text" "_law_panel_text" sLPanT f fd)
    (m_len : mg "len" = none) (m_range : mg "range" = none) (m_str : mg "str" = none) : FnOk P w K mg base CX0 (k + 1) f fd ["_law_panel_here"] (spLPanT K) := by
  refine F.ok scLPanT (fun vs H Q E h => ?_) (fun cdv A outer s H vs Q E hr h => ?_)
  · obtain ⟨_, hd, _⟩ := h
    exact hd.length
  · obtain ⟨pan, hd, hc, q⟩ := h
    obtain ⟨v1, rfl, d1⟩ := dpAll1 hd
    try dsimp only at hc
    try dsimp only at q
    try dsimp only at d1
    refine ⟨_, pss_cons (ps_set (i := 1) scLPanT.nd rfl (.inl rfl) (pe_lst pa_nil))
      (pss_cons (ps_for PassesOwn.never rfl (pi_range1 (by rfl) m_range (pa_cons (pe_callB (show CallR _ _ (rLenG K) from cr_lenG) (by rfl) m_len PySem.boot_len (pa_cons (pv 0) pa_nil)) pa_nil)) (pg_name (i := 2) scLPanT.nd rfl (Or.inl rfl)) (pss_one (ps_expr (show PE _ _ (tBM K "list" rAppend _ _) from pe_bm PySem.F.plainAttrs_list PySem.F.slot_list_append PySem.F.type_list_append mt_append (pv 1) (pa_cons (pe_op op_add_str (pe_op op_add_str (pe_callTy (show CallR _ _ rStrI from call_str_int) (by rfl) m_str (by decide +kernel) (pa_cons (pv 2) pa_nil)) pe_str) (pe_join pe_str (pe_lc (own := [("_law_other", 3)]) (g := gName 3) (tt := tYes) rfl scLPanT.nd (show PI _ _ _ (iTup K _) from pi_tup (pe_ix (show IxR _ (rIxT K) from ix_tup) (pv 0) (pv 2) (fun _ _ => rfl))) (blkOk_by (own := [("_law_other", 3)]) (N := nLPanT) (sc := defScope sLPanT) (by decide +kernel)) (fun _ _ _ _ _ => pg_name (i := 3) scLPanT.nd rfl (Or.inl rfl)) (fun _ _ _ _ _ => pts_nil) (fun _ _ _ _ _ => pe_callTy (show CallR _ _ rStrI from call_str_int) (by rfl) m_str (by decide +kernel) (pa_cons (pv 3) pa_nil))))) pa_nil)))))
      (pss_one (ps_ret (pe_join pe_str (pv 1))))), ?_⟩
    have few := hc.few
    have sj : Sm 1 ("," : Str) := ⟨by decide +kernel, by decide +kernel⟩
    refine gs_setN (K := K) (gn_lst gva_nil) fun D vs0 H1 s1 nD eD dv0 => ?_
    cases dv0
    refine gs_range (K := K) (n := pan.length) ((gv_lenT (gv_var rfl (d1.sm s1))).to (by rw [List.length_map])) (by omega) (fun Ha k σ H' => (∀ b o, b ≠ D → Ha b = some o → H' b = some o) ∧ Kp Ha H' ∧ H' D = some (.lst (((pan.zipIdx.take k).map fun x => listT (x.2 : Nat) x.1).map V.str)) ∧ ∃ x2 x3, σ = [some v1, some (.ref D), x2, x3])
      (fun H2 s2 => ⟨fun _ _ _ e => e, Kp.refl _, s2 _ _ eD, _, _, rfl⟩) (fun H2 k σ H3 s2 hk hP => ?_) (fun H2 σ H3 s2 hP => ?_)
    · obtain ⟨but, kp, eD3, x2, x3, rfl⟩ := hP
      have dp3 : Dp K H3 v1 (dPan pan) := ((d1.sm s1).sm s2).kp kp
      have hkl : k < pan.zipIdx.length := by rw [List.length_zipIdx]; exact hk
      have hpk : pan.getD k [] ∈ pan := by rw [List.getD_eq_getElem?_getD, List.getElem?_eq_getElem hk]; exact List.getElem_mem _
      have hsh := hc.sh _ hpk
      have hdg := hc.dg _ hpk
      have hb : Dg (k : Int) := ⟨by omega, by omega⟩
      have sn : ∀ p ∈ (pan.getD k []).map numT, Sm 1 p := fun p hp => by
        obtain ⟨x, hx, rfl⟩ := List.mem_map.mp hp
        exact sm_num (hdg x hx)
      have l1 := (sm_join sj sn).ln
      rw [List.length_map] at l1
      have l2 := (sm_num hb).ln
      have gp := gv_pan (K := K) (gv_var (σ := [some v1, some (.ref D), some (.int (k : Int)), x3]) (i := 0) rfl dp3) (gv_var (i := 2) rfl (.int (k : Int))) (by omega) (by omega)
      rw [Int.toNat_natCast] at gp
      refine ⟨.ref D, rfl, .inl ⟨rfl, _, .inl (.inl eD3)⟩, (gv_addS (K := K) (gv_addS (gv_numT (gv_var rfl (.int (k : Int))) hb) gv_str (by show _ + 1 ≤ _; omega) rfl) (gv_joinT (n := 1) (ys := (pan.getD k []).map numT) gv_str ((gv_lc (δ := PyData.int) (as := pan.getD k []) (p := fun _ => true) (f := fun x : Int => .str (numT x)) (gvi_tup gp) (fun x v H1 hx s dx => ⟨gvt_yes, fun _ => gv_numT (gv_var rfl dx) (hdg x hx)⟩) (fun _ _ => rfl) (by omega)).to (by rw [List.filter_eq_self.mpr (fun _ _ => rfl), List.map_map]; rfl)) (fun y hy => Nat.le_trans (sn y hy).ln (by decide)) (by rw [List.length_map]; omega) (by decide +kernel) rfl) (by rw [Str.length_append]; show _ + 1 + _ ≤ _; omega) rfl).at fun vt H4 s4 dt => ?_⟩
      cases dt
      have eD4 := s4 _ _ eD3
      refine ⟨D, _, _, rfl, rfl, eD4, ?_, fun b o hb e => ?_, kp.trans ((Kp.of s4).trans (Kp.upd eD4)), ?_, _, _, rfl⟩
      · rw [List.length_map, List.length_map, List.length_take]; exact small1000 (by omega)
      · rw [upd_ne hb]; exact s4 _ _ (but b o hb e)
      · rw [upd_same, List.take_add_one, List.getElem?_eq_getElem hkl, List.getElem_zipIdx]
        simp only [Option.toList_some, List.map_append, List.map_cons, List.map_nil, Nat.zero_add]
        rw [List.getD_eq_getElem?_getD, List.getElem?_eq_getElem hk]; rfl
    · obtain ⟨but, kp, eD3, x2, x3, rfl⟩ := hP
      rw [List.take_of_length_le (by rw [List.length_zipIdx]; exact Nat.le_refl _)] at eD3
      have dW : Dp K H3 (.ref D) (.list ((pan.zipIdx.map fun x => listT (x.2 : Nat) x.1).map PyData.str)) := .lst (.inl (.inl eD3)) (dpAll_strsD _)
      unfold panT at q
      have hy0 : ∀ y ∈ (pan.zipIdx.map fun x => listT (x.2 : Nat) x.1), y.length ≤ 200 := fun y hy => by
        obtain ⟨x, hx, rfl⟩ := List.mem_map.mp hy
        have hz := zip_ix hx
        have := (sm_list (b := (x.2 : Nat)) ⟨by omega, by omega⟩ (hc.dg _ hz.2)).ln
        have := hc.sh _ hz.2
        omega
      have hy1 : (pan.zipIdx.map fun x => listT (x.2 : Nat) x.1).length ≤ 100 := by rw [List.length_map, List.length_zipIdx]; omega
      generalize (pan.zipIdx.map fun x => listT (x.2 : Nat) x.1) = ws at dW q hy0 hy1
      refine gs_ret (gv_joinT (n := 1) (K := K) (ys := ws) gv_str (gv_var rfl dW) hy0 hy1 (by decide +kernel) rfl) fun v H4 s4 dv => q v H4 ?_ dv
      · refine Same.trans (fun b o e => ?_) s4
        exact but b o (ne_of_none e nD) (s2 _ _ (s1 _ _ e))
end
end K61
namespace K61
open PySem PySem.Spec PyProof.Rows L2 Pr
def nOne : List Str := ["_law_state", "_law_items"]
theorem scOne : FnScope nOne ["_law_state", "_law_items"] (defScope sOne) := ⟨rfl, rfl, rfl, by decide +kernel, rfl, by decide +kernel, by decide +kernel⟩
section
variable {P : Program} {w : World} {K : PySem.W.Frag} {mg : Str → Option Value} {base : Heap}
def spOne (K : PySem.W.Frag) : Sp := fun vs H Q _ => ∃ (a c r I : Addr) (m : Nat) (xs : List Str), vs = [.ref a, .ref I] ∧ Dk3 H a c r (m + 1) ∧ H I = some (.lst (xs.map V.str)) ∧ xs ≠ [] ∧ xs.length ≤ 100 ∧ ∀ H' x, But a r H H' → Dk3 H' a c r m → x ∈ xs → Q (.str x) H'
theorem ok_One {fNext : Addr} {fdNext : FuncData} {f : Addr} {fd : FuncData} {k : Nat} (F : Fun K "_law_one" "_law_one" sOne f fd)
    (FNext : Fun K "_law_next" "_law_next" sNext fNext fdNext) (bNext : Binds K fdNext ["_law_state", "_law_many"] []) (gNext : mg "_law_next" = some (.ref fNext))
    (m_len : mg "len" = none) : FnOk P w K mg base CX0 (k + 2) f fd ["_law_state", "_law_items"] (spOne K) := by
  have GNext : FnOk P w K mg base CX0 (k + 1) fNext fdNext ["_law_state", "_law_many"] spNext := ok_Next FNext m_len
  refine F.ok scOne (fun vs H Q E h => ?_) (fun cdv A outer s H vs Q E hr h => ?_)
  · obtain ⟨a, c, r, I, m, xs, rfl, _⟩ := h
    rfl
  · obtain ⟨a, c, r, I, m, xs, rfl, hD, eI, hne, few, q⟩ := h
    refine ⟨_, pss_one (ps_ret (pe_ix (show IxR _ (rIxL K) from ix_list) (pv 1) (pe_call GNext (hr.mono (by omega)) (by rfl) gNext FNext.kp bNext .nil pass0 (pa_cons (pv 0) (pa_cons (pe_callB (show CallR _ _ (rLenG K) from cr_lenG) (by rfl) m_len PySem.boot_len (pa_cons (pv 1) pa_nil)) pa_nil))) (fun _ _ => rfl))), ?_⟩
    have dI : Dp K H (.ref I) (.list (xs.map PyData.str)) := .lst (.inl (.inl eI)) (dpAll_strG _)
    refine ⟨.ref I, rfl, .ref a, rfl, (gv_lenL (K := K) (gv_var (i := 1) rfl dI)).at fun vn H2 s2 dn => ?_⟩
    cases dn
    have pos : 0 < xs.length := List.length_pos_iff.mpr hne
    refine ⟨a, c, r, m, (((xs.map PyData.str).length : Nat) : Int), rfl, hD.same s2, by rw [List.length_map]; omega, by rw [List.length_map]; omega, fun H3 x b3 D3 x0 xl => ?_⟩
    rw [List.length_map] at xl
    obtain ⟨j, rfl⟩ : ∃ j : Nat, x = (j : Int) := ⟨x.toNat, (Int.toNat_of_nonneg x0).symm⟩
    have hj : j < xs.length := by omega
    have n1 := apart_s hD eI hne
    have e3 : H3 I = some (.lst (xs.map V.str)) := b3 _ _ n1.1 n1.2 (s2 _ _ eI)
    exact ⟨I, _, _, .str xs[j], rfl, rfl, .inl (.inl e3), atI_nat (by rw [List.getElem?_map, List.getElem?_eq_getElem hj]; rfl), q H3 _ (But.trans (But.of s2) b3) D3 (List.getElem_mem hj)⟩
end
def nBent : List Str := ["_law_state", "_law_text", "_law_signs", "_law_words", "_law_way", "_law_spot", "_law_place", "_law_sign"]
theorem scBent : FnScope nBent ["_law_state", "_law_text", "_law_signs"] (defScope sBent) := ⟨rfl, rfl, rfl, by decide +kernel, rfl, by decide +kernel, by decide +kernel⟩
section
variable {P : Program} {w : World} {K : PySem.W.Frag} {mg : Str → Option Value} {base : Heap}
/-- the signs that are put in -/
structure SgOk (sg : List Str) : Prop where
  ne : sg ≠ []
  few : sg.length ≤ 100
  sm : ∀ x ∈ sg, Sm 4 x
  sp : ∀ x ∈ sg, spn x ≤ 1
def spBent (K : PySem.W.Frag) : Sp := fun vs H Q _ => ∃ (a c r I : Addr) (m n l u : Nat) (x : Str) (sg : List Str), vs = [.ref a, .str x, .ref I] ∧ Dk3 H a c r (m + 10) ∧ H I = some (.lst (sg.map V.str)) ∧ SgOk sg ∧ Sm n x ∧ spn x ≤ u ∧ n ≤ 900 ∧ (∀ z ∈ Txt.split x (" " : Str), z.length ≤ l) ∧ l ≤ n ∧
  ∀ H' y, But a r H H' → Dk3 H' a c r m → Sm (n + l + 4) y → spn y ≤ u + 1 → Q (.str y) H'
theorem ok_Bent {fNext : Addr} {fdNext : FuncData} {fOne : Addr} {fdOne : FuncData} {f : Addr} {fd : FuncData} {k : Nat} (F : Fun K "_law_bent" "_law_bent" sBent f fd)
    (FNext : Fun K "_law_next" "_law_next" sNext fNext fdNext) (bNext : Binds K fdNext ["_law_state", "_law_many"] []) (gNext : mg "_law_next" = some (.ref fNext))
    (FOne : Fun K "_law_one" "_law_one" sOne fOne fdOne) (bOne : Binds K fdOne ["_law_state", "_law_items"] []) (gOne : mg "_law_one" = some (.ref fOne))
    (m_len : mg "len" = none) : FnOk P w K mg base CX0 (k + 3) f fd ["_law_state", "_law_text", "_law_signs"] (spBent K) := by
  have GNext : FnOk P w K mg base CX0 (k + 1) fNext fdNext ["_law_state", "_law_many"] spNext := ok_Next FNext m_len
  have GOne : FnOk P w K mg base CX0 (k + 2) fOne fdOne ["_law_state", "_law_items"] (spOne K) := ok_One FOne FNext bNext gNext m_len
  refine F.ok scBent (fun vs H Q E h => ?_) (fun cdv A outer s H vs Q E hr h => ?_)
  · obtain ⟨a, c, r, I, m, n, l, u, x, sg, rfl, _⟩ := h
    rfl
  · obtain ⟨a, c, r, I, m, n, l, uu, x, sg, rfl, hD, eI, sgk, hx, hcn, hn, hw, hln, q⟩ := h
    refine ⟨_, pss_cons (ps_par (i := 3) (j := 4) rfl scBent.nd rfl rfl (by decide) rfl rfl (pa_cons (pe_split (pv 1) pe_str) (pa_cons (pe_call GNext (hr.mono (by omega)) (by rfl) gNext FNext.kp bNext .nil pass0 (pa_cons (pv 0) (pa_cons pe_int pa_nil))) pa_nil)) (by rfl))
      (pss_cons (ps_set (i := 5) scBent.nd rfl (.inl rfl) (pe_call GNext (hr.mono (by omega)) (by rfl) gNext FNext.kp bNext .nil pass0 (pa_cons (pv 0) (pa_cons (pe_callB (show CallR _ _ (rLenG K) from cr_lenG) (by rfl) m_len PySem.boot_len (pa_cons (pv 3) pa_nil)) pa_nil))))
      (pss_cons (ps_if (pt_cmpR op_eq (pv 4) pe_int (nomark _)) (pss_one (ps_ret (pe_join pe_str (pe_op op_cat (pe_slice (show SlR _ (rSlL K) from sl_list) (pv 3) po_none (po_some (pv 5))) (pe_slice (show SlR _ (rSlL K) from sl_list) (pv 3) (po_some (pe_op op_add (pv 5) pe_int)) po_none))))) pss_nil)
      (pss_cons (ps_if (pt_cmpR op_eq (pv 4) pe_int (nomark _)) (pss_one (ps_ret (pe_join pe_str (pe_op op_cat (pe_slice (show SlR _ (rSlL K) from sl_list) (pv 3) po_none (po_some (pe_op op_add (pv 5) pe_int))) (pe_slice (show SlR _ (rSlL K) from sl_list) (pv 3) (po_some (pv 5)) po_none))))) pss_nil)
      (pss_cons (ps_if (pt_cmpR op_eq (pv 4) pe_int (nomark _)) (pss_one (ps_ret (pe_join pe_str (pe_op op_cat (pe_slice (show SlR _ (rSlL K) from sl_list) (pv 3) (po_some (pv 5)) po_none) (pe_slice (show SlR _ (rSlL K) from sl_list) (pv 3) po_none (po_some (pv 5))))))) pss_nil)
      (pss_cons (ps_par (i := 6) (j := 7) rfl scBent.nd rfl rfl (by decide) rfl rfl (pa_cons (pe_call GNext (hr.mono (by omega)) (by rfl) gNext FNext.kp bNext .nil pass0 (pa_cons (pv 0) (pa_cons (pe_op op_add (pe_callB call_len_str (by rfl) m_len PySem.boot_len (pa_cons (pv 1) pa_nil)) pe_int) pa_nil))) (pa_cons (pe_call GOne (hr.mono (by omega)) (by rfl) gOne FOne.kp bOne .nil pass0 (pa_cons (pv 0) (pa_cons (pv 2) pa_nil))) pa_nil)) (by rfl))
      (pss_one (ps_ret (pe_op op_add_str (pe_op op_add_str (pe_slice (show SlR _ L2.rSlS from sl_str) (pv 1) po_none (po_some (pv 6))) (pe_op op_mulS (pv 7) (pe_op op_mod (pv 4) pe_int))) (pe_slice (show SlR _ L2.rSlS from sl_str) (pv 1) (po_some (pe_op op_add (pv 6) (pe_call GNext (hr.mono (by omega)) (by rfl) gNext FNext.kp bNext .nil pass0 (pa_cons (pv 0) (pa_cons pe_int pa_nil))))) po_none))))))))), ?_⟩
    have hxl := hx.ln
    have tot := split_tot sep_sp x
    have wne := split_ne sep_sp x
    obtain ⟨wct, wc0⟩ := split_cnt x
    have wcs : ∀ z ∈ Txt.split x (" " : Str), ∀ c ∈ TL.tl z, c < 128 := fun z hz => (split_sm sep_sp hx z hz).cs
    refine gs_parQ ?_
    refine tconsN_at (K := K) (gn_split rfl (gv_var (i := 1) rfl (.str x)) gv_str (by decide +kernel) (by omega)) fun W vW H1 s1 nW eW dW => ?_
    have evW := dpAll_strJ dW
    subst evW
    generalize Txt.split x (" " : Str) = ws at tot wne wcs hw eW dW wct wc0
    have wl := tot_len ws
    have each : ∀ z ∈ ws, z.length ≤ 1500 := fun z hz => by have := tot_mem hz; omega
    refine ⟨.ref a, rfl, a, c, r, m + 9, 6, rfl, hD.same s1, by decide, by decide, fun H2 y b2 D2 y0 y6 => ⟨_, _, rfl, ?_⟩⟩
    have nW1 := apart_s (hD.same s1) eW wne
    have eW2 := b2 _ _ nW1.1 nW1.2 eW
    have nI := apart_s hD eI sgk.ne
    have b02 := But.trans (But.of s1) b2
    have eI2 := b02 _ _ nI.1 nI.2 eI
    have dW2 : Dp K H2 (.ref W) (.list (ws.map PyData.str)) := .lst (.inl (.inl eW2)) (dpAll_strG _)
    have wlp : (ws.map PyData.str).length = ws.length := List.length_map _
    refine ⟨.ref a, rfl, (gv_lenL (K := K) (gv_var (i := 3) rfl dW2)).at fun vn H3 s3 dn => ?_⟩
    cases dn
    rw [wlp]
    have pos : 0 < ws.length := List.length_pos_iff.mpr wne
    refine ⟨a, c, r, m + 8, ((ws.length : Nat) : Int), rfl, D2.same s3, by omega, by omega, fun H4 p b4 D4 p0 pl => ?_⟩
    obtain ⟨k, rfl⟩ : ∃ k : Nat, p = (k : Int) := ⟨p.toNat, (Int.toNat_of_nonneg p0).symm⟩
    have hk : k < ws.length := by omega
    have b34 := But.trans (But.of s3) b4
    have nW2 := apart_s D2 eW2 wne
    have eW4 := b34 _ _ nW2.1 nW2.2 eW2
    have b04 := But.trans b02 b34
    have eI4 := b04 _ _ nI.1 nI.2 eI
    have dW4 : Dp K H4 (.ref W) (.list (ws.map PyData.str)) := .lst (.inl (.inl eW4)) (dpAll_strG _)
    have fin : ∀ (zs : List Str) (t : TE) (H' : Hp), Same H4 H' → (∀ z ∈ zs, z ∈ ws) → totW zs ≤ n + l + 4 → zs.length ≤ ws.length + 1 → Gv K t [some (.ref a), some (.str x), some (.ref I), some (.ref W), some (.int y), some (.int (k : Int)), none, none] H' (.str (Txt.join (" " : Str) zs)) → tRet t { nx := fun x H' => Q V.non H', rt := Q } [some (.ref a), some (.str x), some (.ref I), some (.ref W), some (.int y), some (.int (k : Int)), none, none] H' := fun zs t H' s' hz ht hzl g => by
      refine gs_ret g fun v H5 s5 dv => ?_
      cases dv
      exact q H5 _ (But.trans b04 (But.of (s'.trans s5))) ((D4.same (s'.trans s5)).less (by omega)) (join_sm sep_sp ht fun z h => wcs z (hz z h)) (by
        have := join_cnt zs fun z h => wc0 z (hz z h)
        by_cases e : zs = []
        · subst e; rw [if_pos rfl] at this; have z0 : ([] : List Str).length = 0 := rfl; omega
        · rw [if_neg e] at this; omega)
    have tk : ∀ j, totW (ws.take j) + totW (ws.drop j) = totW ws := fun j => by rw [← tot_append, List.take_append_drop]
    have jb : ∀ zs : List Str, (∀ z ∈ zs, z ∈ ws) → totW zs ≤ n + l + 4 → (∀ z ∈ zs, z.length ≤ 1500) ∧ zs.length ≤ 2000 := fun zs hz ht => ⟨fun z h => each z (hz z h), by have := tot_len zs; omega⟩
    have mt : ∀ j z, z ∈ ws.take j → z ∈ ws := fun j z h => List.mem_of_mem_take h
    have md : ∀ j z, z ∈ ws.drop j → z ∈ ws := fun j z h => List.mem_of_mem_drop h
    have k1 : (k : Int) + 1 = ((k + 1 : Nat) : Int) := by omega
    have hd1 : totW (ws.drop k) = (ws[k].length + 1) + totW (ws.drop (k + 1)) := by
      rw [List.drop_eq_getElem_cons hk]; rfl
    have hwk := hw ws[k] (List.getElem_mem hk)
    refine gs_if1 (gvt_test (K := K) (gv_eqI (gv_var (i := 4) rfl (.int y)) gv_int)) (fun _ H5 s5 => ?_) (fun _ H5 s5 => ?_)
    · have hm : ∀ z ∈ ws.take k ++ ws.drop (k + 1), z ∈ ws := fun z h => by
        rcases List.mem_append.mp h with h | h
        · exact mt _ _ h
        · exact md _ _ h
      have ht : totW (ws.take k ++ ws.drop (k + 1)) ≤ n + l + 4 := by
        rw [tot_append]
        have := tk k
        omega
      refine fin _ _ H5 s5 hm ht (by rw [List.length_append, List.length_take, List.length_drop]; omega) (gv_joinB gv_str ((gn_cat (gn_cutLTo (gv_var (i := 3) rfl (dW4.sm s5)) (gv_var (i := 5) rfl (.int (k : Int))) (by rw [wlp]; omega)).gl (gn_cutLFrom (k := k + 1) (gv_var (i := 3) rfl (dW4.sm s5)) ((gv_add (gv_var (i := 5) rfl (.int (k : Int))) gv_int).to (by rw [k1])) (by rw [wlp]; omega)).gl ?_).gv.to (by rw [List.map_append, List.map_take, List.map_drop])) (jb _ hm ht).1 (jb _ hm ht).2 (by decide +kernel) rfl)
      rw [List.length_take, List.length_drop]; omega
    refine gs_if1 (gvt_test (K := K) (gv_eqI (gv_var (i := 4) rfl (.int y)) gv_int)) (fun _ H6 s6 => ?_) (fun _ H6 s6 => ?_)
    · have hm : ∀ z ∈ ws.take (k + 1) ++ ws.drop k, z ∈ ws := fun z h => by
        rcases List.mem_append.mp h with h | h
        · exact mt _ _ h
        · exact md _ _ h
      have ht : totW (ws.take (k + 1) ++ ws.drop k) ≤ n + l + 4 := by
        rw [tot_append]
        have := tk (k + 1)
        omega
      have s56 := s5.trans s6
      refine fin _ _ H6 s56 hm ht (by rw [List.length_append, List.length_take, List.length_drop]; omega) (gv_joinB gv_str ((gn_cat (gn_cutLTo (k := k + 1) (gv_var (i := 3) rfl (dW4.sm s56)) ((gv_add (gv_var (i := 5) rfl (.int (k : Int))) gv_int).to (by rw [k1])) (by rw [wlp]; omega)).gl (gn_cutLFrom (gv_var (i := 3) rfl (dW4.sm s56)) (gv_var (i := 5) rfl (.int (k : Int))) (by rw [wlp]; omega)).gl ?_).gv.to (by rw [List.map_append, List.map_take, List.map_drop])) (jb _ hm ht).1 (jb _ hm ht).2 (by decide +kernel) rfl)
      rw [List.length_take, List.length_drop]; omega
    have s56 := s5.trans s6
    refine gs_if1 (gvt_test (K := K) (gv_eqI (gv_var (i := 4) rfl (.int y)) gv_int)) (fun _ H7 s7 => ?_) (fun _ H7 s7 => ?_)
    · have hm : ∀ z ∈ ws.drop k ++ ws.take k, z ∈ ws := fun z h => by
        rcases List.mem_append.mp h with h | h
        · exact md _ _ h
        · exact mt _ _ h
      have ht : totW (ws.drop k ++ ws.take k) ≤ n + l + 4 := by
        rw [tot_append]
        have := tk k
        omega
      have s57 := s56.trans s7
      refine fin _ _ H7 s57 hm ht (by rw [List.length_append, List.length_take, List.length_drop]; omega) (gv_joinB gv_str ((gn_cat (gn_cutLFrom (gv_var (i := 3) rfl (dW4.sm s57)) (gv_var (i := 5) rfl (.int (k : Int))) (by rw [wlp]; omega)).gl (gn_cutLTo (gv_var (i := 3) rfl (dW4.sm s57)) (gv_var (i := 5) rfl (.int (k : Int))) (by rw [wlp]; omega)).gl ?_).gv.to (by rw [List.map_append, List.map_take, List.map_drop])) (jb _ hm ht).1 (jb _ hm ht).2 (by decide +kernel) rfl)
      rw [List.length_take, List.length_drop]; omega
    have s57 := s56.trans s7
    have eI7 := s57 _ _ eI4
    have D7 := D4.same s57
    have b07 := But.trans b04 (But.of s57)
    refine gs_parQ ?_
    refine ⟨.ref a, rfl, ?_⟩
    refine ⟨.str x, rfl, x, rfl, Nat.le_of_lt (small5 (by omega)), _, 1, rfl, rfl, ?_⟩
    refine ⟨a, c, r, m + 7, (x.length : Int) + 1, rfl, D7, by omega, by omega, fun H8 pl b8 D8 p0' pl' => ?_⟩
    have b08 := But.trans b07 b8
    have eI8 := b08 _ _ nI.1 nI.2 eI
    refine ⟨.ref a, rfl, .ref I, rfl, a, c, r, I, m + 6, sg, rfl, D8, eI8, sgk.ne, sgk.few, fun H9 z b9 D9 hz => ⟨_, _, rfl, ?_⟩⟩
    have b09 := But.trans b08 b9
    have sz := sgk.sm z hz
    have szl := sz.ln
    obtain ⟨yn, hyn, hy2⟩ : ∃ yn : Nat, y % 2 = (yn : Int) ∧ yn ≤ 1 := ⟨(y % 2).toNat, (Int.toNat_of_nonneg (Int.emod_nonneg _ (by decide))).symm, by have := Int.emod_lt_of_pos y (show (0 : Int) < 2 by decide); omega⟩
    have r1 := rep_sm (n := yn) sz
    have hr1 := r1.ln
    have r1l : (repT z yn).length ≤ 4 := Nat.le_trans hr1 (by have : yn * 4 ≤ 1 * 4 := Nat.mul_le_mul_right _ hy2; omega)
    have c1 := cut_sm hx none (some pl)
    have c1l := c1.ln
    have gmod : Gv K (tOp (rI (fun _ j => 0 < j) fun i j => .int (i % j)) (tVar 4) (tC (.int 2))) _ H9 (.int (yn : Int)) := (gv_I (K := K) (i := y) (j := 2) (f := .int (y % 2)) (gv_var (σ := [some (.ref a), some (.str x), some (.ref I), some (.ref W), some (.int y), some (.int (k : Int)), some (.int pl), some (.str z)]) (i := 4) rfl (.int y)) gv_int (show (0 : Int) < 2 by decide) (fun _ => .int _)).to (by rw [hyn])
    refine ret_op (K := K) (gv_addS (gv_cutST (gv_var (i := 1) rfl (.str x)) (gv_var (i := 6) rfl (.int pl)) (by omega)) (gv_mulS (n := yn) (gv_var (i := 7) rfl (.str z)) gmod (by omega) (by omega)) (by omega) rfl) fun u H10 s10 du => ?_
    cases du
    have D10 := D9.same s10
    refine ⟨.str x, rfl, .int pl, rfl, .ref a, rfl, a, c, r, m + 5, 2, rfl, D10, by decide, by decide, fun H11 o b11 D11 o0 o2 => ⟨pl, o, rfl, rfl, pl + o, rfl, x, rfl, Nat.le_of_lt (small5 (by omega)), ?_⟩⟩
    have c2 := cut_sm hx (some (pl + o)) none
    have c2l := c2.ln
    have hlen : (cutS x none (some pl)).length + (cutS x (some (pl + o)) none).length ≤ n := by
      have e1 : TL.tl (cutS x none (some pl)) = (TL.tl x).take (HT.sIx x.length x.length (some pl)) := by
        show ((TL.tl x).drop (HT.sIx x.length 0 none)).take (HT.sIx x.length x.length (some pl) - HT.sIx x.length 0 none) = _
        rw [HT.sIx_none, List.drop_zero, Nat.sub_zero]
      have e2 : (TL.tl (cutS x (some (pl + o)) none)).length ≤ (TL.tl x).length - HT.sIx x.length 0 (some (pl + o)) := by
        show (((TL.tl x).drop (HT.sIx x.length 0 (some (pl + o)))).take _).length ≤ _
        rw [List.length_take, List.length_drop]; omega
      obtain ⟨pn, rfl⟩ : ∃ pn : Nat, pl = (pn : Int) := ⟨pl.toNat, (Int.toNat_of_nonneg p0').symm⟩
      obtain ⟨on, rfl⟩ : ∃ on : Nat, o = (on : Int) := ⟨o.toNat, (Int.toNat_of_nonneg o0).symm⟩
      have e3 : (pn : Int) + (on : Int) = ((pn + on : Nat) : Int) := by omega
      rw [e3] at e2 ⊢
      rw [HT.sIx_nat] at e1 e2
      rw [TL.len_tl, TL.len_tl, e1, List.length_take]
      rw [TL.len_tl] at hxl
      rw [TL.len_tl x] at e2 pl'
      rw [TL.len_tl x]
      omega
    refine ⟨_, _, rfl, rfl, ?_, q _ _ (But.trans b09 (But.trans (But.of s10) b11)) (D11.less (by omega)) ⟨?_, fun cc hcc => ?_⟩ ?_⟩
    · rw [Str.length_append]; exact Nat.le_of_lt (small5 (by omega))
    · rw [Str.length_append, Str.length_append]; omega
    · rw [TL.tl_append, TL.tl_append] at hcc
      rcases List.mem_append.mp hcc with hcc | hcc
      · rcases List.mem_append.mp hcc with hcc | hcc
        · exact c1.cs cc hcc
        · exact r1.cs cc hcc
      · exact c2.cs cc hcc
    · obtain ⟨pn, rfl⟩ : ∃ pn : Nat, pl = (pn : Int) := ⟨pl.toNat, (Int.toNat_of_nonneg p0').symm⟩
      obtain ⟨on, rfl⟩ : ∃ on : Nat, o = (on : Int) := ⟨o.toNat, (Int.toNat_of_nonneg o0).symm⟩
      have e3 : (pn : Int) + (on : Int) = ((pn + on : Nat) : Int) := by omega
      have h1 := cut2_cnt x (a := pn) (b := pn + on) (by omega)
      have h2 := rep_cnt z hy2
      have h3 := sgk.sp z hz
      rw [e3, spn_append, spn_append]
      omega
end
end K61
/-! Values of all kinds that outlive what changes the objects of a set X. -/
namespace Pr
open PySem PySem.Spec PyProof.Rows L2
/-- every object but those of X is kept -/
def Per (X : Addr → Prop) (H H' : Hp) : Prop := ∀ b o, ¬ X b → H b = some o → H' b = some o
theorem Per.refl (X : Addr → Prop) (H : Hp) : Per X H H := fun _ _ _ e => e
theorem Per.trans {X : Addr → Prop} {H H1 H2 : Hp} (p : Per X H H1) (p2 : Per X H1 H2) : Per X H H2 := fun b o hb e => p2 b o hb (p b o hb e)
theorem Per.of {X : Addr → Prop} {H H' : Hp} (s : Same H H') : Per X H H' := fun b o _ e => s b o e
theorem Per.but {X : Addr → Prop} {H H' : Hp} {a c : Addr} (xa : X a) (xc : X c) (s : But a c H H') : Per X H H' := fun b o hb e => s b o (fun z => hb (by rw [z]; exact xa)) (fun z => hb (by rw [z]; exact xc)) e
/-- a value: its data for every later heap that keeps all but X; it may be shown; a text is not long -/
structure VW (K : PySem.W.Frag) (X : Addr → Prop) (H : Hp) (v : V) (d : PyData) : Prop where
  dq : ∀ H', Per X H H' → Dq K (fun _ => False) H' v d
  sh : Shq 60 sizeLine d
  st : ∀ x, d = .str x → Sm 600 x
section
variable {K : PySem.W.Frag} {X : Addr → Prop} {H H' : Hp} {v : V} {d : PyData} {b : Addr} {vs : List V} {ds : List PyData}
theorem VW.per (h : VW K X H v d) (p : Per X H H') : VW K X H' v d := ⟨fun H2 p2 => h.dq H2 (p.trans p2), h.sh, h.st⟩
theorem vw_of (hd : ∀ H', Dq K (fun _ => False) H' v d) (lo : Low d) (ns : ∀ x, d ≠ .str x) : VW K X H v d := ⟨fun H' _ => hd H', lo.shq.mono (by decide) (by decide), fun x e => absurd e (ns x)⟩
theorem vw_tup (hb : ¬ X b) (e : H b = some (.tup vs)) (hv : ∀ H', Per X H H' → DqAll K (fun _ => False) H' vs ds) (sh : Shq 60 sizeLine (.tuple ds)) : VW K X H (.ref b) (.tuple ds) :=
  ⟨fun H' p => .tup (.inl (.inl (p _ _ hb e))) (hv H' p), sh, fun x z => by cases z⟩
theorem vw_lst (hb : ¬ X b) (e : H b = some (.lst vs)) (s : b ≠ sysModules) (hv : ∀ H', Per X H H' → DqAll K (fun _ => False) H' vs ds) (sh : Shq 60 sizeLine (.list ds)) : VW K X H (.ref b) (.list ds) :=
  ⟨fun H' p => .lst s (fun z => z) (p _ _ hb e) (hv H' p), sh, fun x z => by cases z⟩
theorem vw_dct0 (hb : ¬ X b) (e : H b = some (.dK [])) : VW K X H (.ref b) (.dict []) :=
  ⟨fun H' p => .dct0 (p _ _ hb e), Low.shq (d := .dict []) (show lowB _ = true by decide +kernel) |>.mono (by decide) (by decide), fun x z => by cases z⟩
theorem vw_dct1 {x : Str} {i : Int} (hb : ¬ X b) (e : H b = some (.dK [(Sum.inr x, .int i)])) (sh : Shq 60 sizeLine (.dict [(.str x, .int i)])) : VW K X H (.ref b) (.dict [(.str x, .int i)]) :=
  ⟨fun H' p => .dct1 (p _ _ hb e), sh, fun x z => by cases z⟩
theorem vw_str {n : Nat} {x : Str} (h : Sm n x) (hn : n ≤ 600) : VW K X H (.str x) (.str x) := ⟨fun H' _ => .str x, (shq_str h (by omega)).mono (by decide) (by rw [sizeLine_eq]; omega), fun y e => by injection e with e; rw [← e]; exact h.mono hn⟩
/-- a list of such values -/
def VWs (K : PySem.W.Frag) (X : Addr → Prop) (H : Hp) (vs : List V) : Prop := ∀ v ∈ vs, ∃ d, VW K X H v d
theorem VWs.per (h : VWs K X H vs) (p : Per X H H') : VWs K X H' vs := fun v hv => let ⟨d, w⟩ := h v hv; ⟨d, w.per p⟩
theorem VWs.app {us : List V} (h : VWs K X H vs) (g : VWs K X H us) : VWs K X H (vs ++ us) := fun v hv => (List.mem_append.mp hv).elim (h v) (g v)
end
end Pr
namespace K61
open PySem PySem.Spec PyProof.Rows L2 Pr
def nOdd : List Str := ["_law_state", "_law_some"]
theorem scOdd : FnScope nOdd ["_law_state"] (defScope sOdd) := ⟨rfl, rfl, rfl, by decide +kernel, rfl, by decide +kernel, by decide +kernel⟩
section
variable {P : Program} {w : World} {K : PySem.W.Frag} {mg : Str → Option Value} {base : Heap}
def DkX (a r : Addr) : Addr → Prop := fun b => b = a ∨ b = r
def spOdd (K : PySem.W.Frag) : Sp := fun vs H Q _ => ∃ (a c r : Addr) (m : Nat), vs = [.ref a] ∧ Dk3 H a c r (m + 1) ∧ ∀ H' v d, But a r H H' → Dk3 H' a c r m → VW K (DkX a r) H' v d → isS d = false → Q v H'
theorem ok_Odd {fNext : Addr} {fdNext : FuncData} {f : Addr} {fd : FuncData} {k : Nat} (F : Fun K "_law_odd" "_law_odd" sOdd f fd)
    (FNext : Fun K "_law_next" "_law_next" sNext fNext fdNext) (bNext : Binds K fdNext ["_law_state", "_law_many"] []) (gNext : mg "_law_next" = some (.ref fNext))
    (m_len : mg "len" = none) : FnOk P w K mg base CX0 (k + 2) f fd ["_law_state"] (spOdd K) := by
  have GNext : FnOk P w K mg base CX0 (k + 1) fNext fdNext ["_law_state", "_law_many"] spNext := ok_Next FNext m_len
  refine F.ok scOdd (fun vs H Q E h => ?_) (fun cdv A outer s H vs Q E hr h => ?_)
  · obtain ⟨a, c, r, m, rfl, _⟩ := h
    rfl
  · obtain ⟨a, c, r, m, rfl, hD, q⟩ := h
    refine ⟨_, pss_cons (ps_set (i := 1) scOdd.nd rfl (.inl rfl) (pe_lst (pa_cons pe_non (pa_cons pe_bl (pa_cons pe_bl (pa_cons pe_int (pa_cons pe_int (pa_cons (pe_un un_neg pe_int) (pa_cons (pe_op op_pow pe_int pe_int) (pa_cons (pe_tup pa_nil) (pa_cons (pe_lstG pa_nil) (pa_cons pe_dnewK (pa_cons (pe_tup (pa_cons pe_int pa_nil)) (pa_cons (pe_lstG (pa_cons pe_str pa_nil)) (pa_cons (pe_tup (pa_cons (pe_tup pa_nil) pa_nil)) (pa_cons (pe_tup (pa_cons pe_str pa_nil)) (pa_cons (pe_disp (pps_cons pe_str pe_int pps_nil) (by rfl) (by rfl) (fun z => by cases z) (by decide)) pa_nil)))))))))))))))))
      (pss_one (ps_ret (pe_ix (show IxR _ (rIxL K) from ix_list) (pv 1) (pe_call GNext (hr.mono (by omega)) (by rfl) gNext FNext.kp bNext .nil pass0 (pa_cons (pv 0) (pa_cons pe_int pa_nil))) (fun _ _ => rfl)))), ?_⟩
    refine ⟨1, rfl, 10, 39, rfl, rfl, ⟨by decide, by decide, by decide⟩, ?_⟩
    refine ⟨Nat.zero_le _, fun T1 n1 => ?_⟩
    have s1 := same_new (o := HO.tup []) n1
    refine ⟨Nat.zero_le _, fun L1 n2 z1 => ?_⟩
    have s2 := same_new (o := HO.lst []) n2
    intro D1 n3
    have s3 := same_new (o := HO.dK []) n3
    refine ⟨by show 1 ≤ sizeLine; decide, fun T2 n4 => ?_⟩
    have s4 := same_new (o := HO.tup [.int 0]) n4
    refine ⟨by show 1 ≤ sizeLine; decide, fun L2 n5 z2 => ?_⟩
    have s5 := same_new (o := HO.lst [.str "0>"]) n5
    refine ⟨Nat.zero_le _, fun T3 n6 => ?_⟩
    have s6 := same_new (o := HO.tup []) n6
    refine ⟨by show 1 ≤ sizeLine; decide, fun T4 n7 => ?_⟩
    have s7 := same_new (o := HO.tup [.ref T3]) n7
    refine ⟨by show 1 ≤ sizeLine; decide, fun T5 n8 => ?_⟩
    have s8 := same_new (o := HO.tup [.str "none"]) n8
    intro D2 n9
    have s9 := same_new (o := HO.dK [(Sum.inr ("0" : Str), .int 1)]) n9
    refine ⟨upd_same, [(Sum.inr ("0" : Str), .int 1)], rfl, (by show 1 ≤ 15; decide), ?_⟩
    rw [upd_upd]
    refine ⟨by show 15 ≤ sizeLine; decide, fun S n10 => ?_⟩
    have s10 := same_new (o := HO.lst [.non, .bl true, .bl false, .int 0, .int 1, .int (-1), .int (10 ^ (39 : Int).toNat), .ref T1, .ref L1, .ref D1, .ref T2, .ref L2, .ref T4, .ref T5, .ref D2]) n10
    have nx : ∀ {Hx : Hp} {b : Addr}, Same H Hx → Hx b = none → b ≠ a ∧ b ≠ r := fun s n => let z := (hD.same s).fresh n; ⟨z.1, z.2.1⟩
    have x1 := nx (Same.refl _) n1
    have x2 := nx s1 n2
    have x3 := nx (s1.trans s2) n3
    have x4 := nx ((s1.trans s2).trans s3) n4
    have x5 := nx (((s1.trans s2).trans s3).trans s4) n5
    have x6 := nx ((((s1.trans s2).trans s3).trans s4).trans s5) n6
    have x7 := nx (((((s1.trans s2).trans s3).trans s4).trans s5).trans s6) n7
    have x8 := nx ((((((s1.trans s2).trans s3).trans s4).trans s5).trans s6).trans s7) n8
    have x9 := nx (((((((s1.trans s2).trans s3).trans s4).trans s5).trans s6).trans s7).trans s8) n9
    have x10 := nx ((((((((s1.trans s2).trans s3).trans s4).trans s5).trans s6).trans s7).trans s8).trans s9) n10
    refine gen_heap (fun HF => Same H HF ∧ HF T1 = some (.tup []) ∧ HF L1 = some (.lst []) ∧ HF D1 = some (.dK []) ∧ HF T2 = some (.tup [.int 0]) ∧ HF L2 = some (.lst [.str "0>"]) ∧ HF T3 = some (.tup []) ∧ HF T4 = some (.tup [.ref T3]) ∧ HF T5 = some (.tup [.str "none"]) ∧ HF D2 = some (.dK [(Sum.inr ("0" : Str), .int 1)]) ∧ HF S = some (.lst [.non, .bl true, .bl false, .int 0, .int 1, .int (-1), .int (10 ^ (39 : Int).toNat), .ref T1, .ref L1, .ref D1, .ref T2, .ref L2, .ref T4, .ref T5, .ref D2])) ⟨(s1.trans (s2.trans (s3.trans (s4.trans (s5.trans (s6.trans (s7.trans (s8.trans (s9.trans s10))))))))), (s2.trans (s3.trans (s4.trans (s5.trans (s6.trans (s7.trans (s8.trans (s9.trans s10)))))))) _ _ upd_same, (s3.trans (s4.trans (s5.trans (s6.trans (s7.trans (s8.trans (s9.trans s10))))))) _ _ upd_same, (s4.trans (s5.trans (s6.trans (s7.trans (s8.trans (s9.trans s10)))))) _ _ upd_same, (s5.trans (s6.trans (s7.trans (s8.trans (s9.trans s10))))) _ _ upd_same, (s6.trans (s7.trans (s8.trans (s9.trans s10)))) _ _ upd_same, (s7.trans (s8.trans (s9.trans s10))) _ _ upd_same, (s8.trans (s9.trans s10)) _ _ upd_same, (s9.trans s10) _ _ upd_same, s10 _ _ upd_same, upd_same⟩ fun HF ⟨sF, e1, e2, e3, e4, e5, e6, e7, e8, e9, eS⟩ => ?_
    have DF := hD.same sF
    refine ⟨.ref S, rfl, .ref a, rfl, a, c, r, m, 15, rfl, DF, by decide, by decide, fun H2 x b2 D2' x0 x15 => ?_⟩
    have eS2 := b2 _ _ x10.1 x10.2 eS
    have b02 : But a r H H2 := But.trans (But.of sF) b2
    have px : Per (DkX a r) HF H2 := Per.but (.inl rfl) (.inr rfl) b2
    have nX : ∀ {b : Addr}, b ≠ a ∧ b ≠ r → ¬ DkX a r b := fun h z => z.elim h.1 h.2
    have lo : ∀ d, lowB d = true → Low d := fun _ h => h
    have shq : ∀ {d : PyData}, lowB d = true → Shq 60 sizeLine d := fun h => (lo _ h).shq.mono (by decide) (by decide)
    have all : ∀ v ∈ ([.non, .bl true, .bl false, .int 0, .int 1, .int (-1), .int (10 ^ (39 : Int).toNat), .ref T1, .ref L1, .ref D1, .ref T2, .ref L2, .ref T4, .ref T5, .ref D2] : List V), ∃ d, VW K (DkX a r) H2 v d ∧ isS d = false := by
      intro v hv
      rcases (show v = .non ∨ v = .bl true ∨ v = .bl false ∨ v = .int 0 ∨ v = .int 1 ∨ v = .int (-1) ∨ v = .int (10 ^ (39 : Int).toNat) ∨ v = .ref T1 ∨ v = .ref L1 ∨ v = .ref D1 ∨ v = .ref T2 ∨ v = .ref L2 ∨ v = .ref T4 ∨ v = .ref T5 ∨ v = .ref D2 by simpa using hv) with rfl | rfl | rfl | rfl | rfl | rfl | rfl | rfl | rfl | rfl | rfl | rfl | rfl | rfl | rfl
      · exact ⟨.none, vw_of (fun _ => .non) (lo _ (by decide +kernel)) (fun _ => by intro z; cases z), rfl⟩
      · exact ⟨.bool true, vw_of (fun _ => .bl _) (lo _ (by decide +kernel)) (fun _ => by intro z; cases z), rfl⟩
      · exact ⟨.bool false, vw_of (fun _ => .bl _) (lo _ (by decide +kernel)) (fun _ => by intro z; cases z), rfl⟩
      · exact ⟨.int 0, vw_of (fun _ => .int _) (lo _ (by decide +kernel)) (fun _ => by intro z; cases z), rfl⟩
      · exact ⟨.int 1, vw_of (fun _ => .int _) (lo _ (by decide +kernel)) (fun _ => by intro z; cases z), rfl⟩
      · exact ⟨.int (-1), vw_of (fun _ => .int _) (lo _ (by decide +kernel)) (fun _ => by intro z; cases z), rfl⟩
      · exact ⟨.int (10 ^ (39 : Int).toNat), vw_of (fun _ => .int _) (lo _ (by decide +kernel)) (fun _ => by intro z; cases z), rfl⟩
      · exact ⟨.tuple [], vw_tup (nX x1) (px _ _ (nX x1) e1) (fun _ _ => .nil) (shq (by decide +kernel)), rfl⟩
      · exact ⟨.list [], vw_lst (nX x2) (px _ _ (nX x2) e2) z1 (fun _ _ => .nil) (shq (by decide +kernel)), rfl⟩
      · exact ⟨.dict [], vw_dct0 (nX x3) (px _ _ (nX x3) e3), rfl⟩
      · exact ⟨.tuple [.int 0], vw_tup (nX x4) (px _ _ (nX x4) e4) (fun _ _ => .cons (.int _) .nil) (shq (by decide +kernel)), rfl⟩
      · exact ⟨.list [.str "0>"], vw_lst (nX x5) (px _ _ (nX x5) e5) z2 (fun _ _ => .cons (.str _) .nil) (shq (by decide +kernel)), rfl⟩
      · exact ⟨.tuple [.tuple []], vw_tup (nX x7) (px _ _ (nX x7) e7) (fun H' p => .cons (.tup (.inl (.inl (p _ _ (nX x6) (px _ _ (nX x6) e6)))) .nil) .nil) (shq (by decide +kernel)), rfl⟩
      · exact ⟨.tuple [.str "none"], vw_tup (nX x8) (px _ _ (nX x8) e8) (fun _ _ => .cons (.str _) .nil) (shq (by decide +kernel)), rfl⟩
      · exact ⟨.dict [(.str ("0" : Str), .int 1)], vw_dct1 (nX x9) (px _ _ (nX x9) e9) (shq (by decide +kernel)), rfl⟩
    obtain ⟨j, rfl⟩ : ∃ j : Nat, x = (j : Int) := ⟨x.toNat, (Int.toNat_of_nonneg x0).symm⟩
    have hj : j < ([.non, .bl true, .bl false, .int 0, .int 1, .int (-1), .int (10 ^ (39 : Int).toNat), .ref T1, .ref L1, .ref D1, .ref T2, .ref L2, .ref T4, .ref T5, .ref D2] : List V).length := by show j < 15; omega
    obtain ⟨d, hv, hs⟩ := all _ (List.getElem_mem hj)
    exact ⟨S, _, _, _, rfl, rfl, .inl (.inl eS2), atI_nat (List.getElem?_eq_getElem hj), q H2 _ d b02 D2' hv hs⟩
end
end K61
namespace K61
open PySem PySem.Spec PyProof.Rows L2 Pr

def joinK (n : Nat) : Str := Txt.join (" " : Str) ((List.range n).map fun k : Nat => numT (k : Int) ++ (">" : Str))
theorem num_len {k : Nat} (h : k < 31) : (numT (k : Int)).length + (">" : Str).length ≤ 100000 := by
  have : ∀ n < 31, (numT ((n : Nat) : Int)).length + (">" : Str).length ≤ 100000 := by decide +kernel
  exact this k h
theorem joinK_each {n : Nat} (hn : n ≤ 31) {y : Str} (h : y ∈ (List.range n).map fun k : Nat => numT (k : Int) ++ (">" : Str)) : y.length ≤ 1500 := by
  obtain ⟨k, hk, rfl⟩ := List.mem_map.mp h
  have hk := List.mem_range.mp hk
  have : ∀ n < 31, (numT ((n : Nat) : Int) ++ (">" : Str)).length ≤ 1500 := by decide +kernel
  exact this k (by omega)
theorem gv_cutSB {K : PySem.W.Frag} {σ : L2.St} {H : Hp} {t tb tc : TE} {x : Str} {k j : Int} (h : Gv K t σ H (.str x)) (hk : Gv K tb σ H (.int k)) (hj : Gv K tc σ H (.int j)) (hx : x.length ≤ 10000) : Gv K (tSl L2.rSlS t (tPart tb) (tPart tc)) σ H (.str (cutS x (some k) (some j))) := fun H1 s Q q => h H1 s _ fun v H2 s2 d2 => by
  cases d2
  refine hk H2 (s.trans s2) _ fun w H3 s3 d3 => ?_
  cases d3
  refine ⟨k, rfl, hj H3 (s.trans (s2.trans s3)) _ fun w2 H4 s4 d4 => ?_⟩
  cases d4
  exact ⟨j, rfl, x, rfl, Nat.le_of_lt (small5 (by omega)), q _ H4 (s2.trans (s3.trans s4)) (.str _)⟩
def smB (n : Nat) (x : Str) : Bool := decide (x.length ≤ n) && (TL.tl x).all fun c => decide (c < 128)
theorem smB_sm {n : Nat} {x : Str} (h : smB n x = true) : Sm n x := by
  unfold smB at h
  simp only [Bool.and_eq_true, decide_eq_true_eq, List.all_eq_true] at h
  exact ⟨h.1, h.2⟩
def wri1 : List Str := [("" : Str), (" " : Str), (">" : Str), ("0>" : Str), ("0" : Str), ("1>" : Str), ("0>0" : Str), ("0>1" : Str), ("0> 1>" : Str), ("0>1 1>" : Str), ("0>1 1>0" : Str), ("0>1  1>0" : Str), (" 0>" : Str), ("0> " : Str)]
def wri2 : List Str := [("0>1,1 1>" : Str), ("0>2,1 1> 2>" : Str), ("0>1,2 1>0 2>" : Str), ("0>1,2 1>0 1>" : Str), ("0>1, 1>" : Str), ("0>,1 1>" : Str), ("0>01 1>" : Str), ("00>" : Str)]
def wri3 : List Str := [("0>+1 1>" : Str), ("0>-0" : Str), ("0>1>0 1>" : Str), ("0>1;2 1> 2>" : Str), ("0>1 1>2" : Str), ("0>1 1>1" : Str), ("0>x 1>" : Str), ("none" : Str), ("0>none" : Str)]
def wri4 : List Str := [joinK 11, (cutS (joinK 11) none (some (-4))), ((cutS (joinK 11) none (some (-4))) ++ (" 1>" : Str)), (("0>10" : Str) ++ (cutS (joinK 11) (some 2) none)), (("0>10" : Str) ++ (cutS (joinK 11) (some 2) (some (-4))))]
def wri5 : List Str := [(joinK 30), (("0>1 1>0" : Str) ++ (repT (" " : Str) 9))]
def wri6 : List Str := [("0>1\n1>" : Str), ("0>1\n" : Str), (("0>" : Str) ++ (repT ("9" : Str) 40))]
def wriL : List Str := wri1 ++ wri2 ++ wri3 ++ wri4 ++ wri5 ++ wri6
theorem wri_sm : ∀ x ∈ wriL, Sm 320 x ∧ spn x < 63 := by
  have : wriL.all (fun x => smB 320 x && decide (spn x < 63)) = true := by decide +kernel
  intro x hx
  have := List.all_eq_true.mp this x hx
  rw [Bool.and_eq_true, decide_eq_true_eq] at this
  exact ⟨smB_sm this.1, this.2⟩
theorem wri_len : wriL.length = 41 := rfl

def nWri : List Str := ["_law_some", "_law_eleven", "_law_k"]
theorem scWri : FnScope nWri [] (defScope sWri) := ⟨rfl, rfl, rfl, by decide +kernel, rfl, by decide +kernel, by decide +kernel⟩
section
variable {P : Program} {w : World} {K : PySem.W.Frag} {mg : Str → Option Value} {base : Heap}
def spWri (K : PySem.W.Frag) : Sp := fun vs H Q _ => vs = [] ∧ ∀ H' l, Same H H' → H l = none → H' l = some (.lst (wriL.map V.str)) → Q (.ref l) H'
theorem ok_Wri  {f : Addr} {fd : FuncData} {k : Nat} (F : Fun K "_law_written" "_law_written" sWri f fd)
    (m_range : mg "range" = none) (m_str : mg "str" = none) : FnOk P w K mg base CX0 (k + 1) f fd [] (spWri K) := by
  refine F.ok scWri (fun vs H Q E h => ?_) (fun cdv A outer s H vs Q E hr h => ?_)
  · obtain ⟨rfl, _⟩ := h
    rfl
  · obtain ⟨rfl, q⟩ := h
    refine ⟨_, pss_cons (ps_set (i := 0) scWri.nd rfl (.inl rfl) (pe_lst (pa_cons pe_str (pa_cons pe_str (pa_cons pe_str (pa_cons pe_str (pa_cons pe_str (pa_cons pe_str (pa_cons pe_str (pa_cons pe_str (pa_cons pe_str (pa_cons pe_str (pa_cons pe_str (pa_cons pe_str (pa_cons pe_str (pa_cons pe_str pa_nil))))))))))))))))
      (pss_cons (ps_set (i := 0) scWri.nd rfl (.inl rfl) (pe_op op_cat (pv 0) (pe_lst (pa_cons pe_str (pa_cons pe_str (pa_cons pe_str (pa_cons pe_str (pa_cons pe_str (pa_cons pe_str (pa_cons pe_str (pa_cons pe_str pa_nil)))))))))))
      (pss_cons (ps_set (i := 0) scWri.nd rfl (.inl rfl) (pe_op op_cat (pv 0) (pe_lst (pa_cons pe_str (pa_cons pe_str (pa_cons pe_str (pa_cons pe_str (pa_cons pe_str (pa_cons pe_str (pa_cons pe_str (pa_cons pe_str (pa_cons pe_str pa_nil))))))))))))
      (pss_cons (ps_set (i := 1) scWri.nd rfl (.inl rfl) (pe_join pe_str (pe_lc (own := [("_law_k", 2)]) (g := gName 2) (tt := tYes) rfl scWri.nd (pi_range1 (by rfl) m_range (pa_cons pe_int pa_nil)) (blkOk_by (own := [("_law_k", 2)]) (N := nWri) (sc := defScope sWri) (by decide +kernel)) (fun _ _ _ _ _ => pg_name (i := 2) scWri.nd rfl (Or.inl rfl)) (fun _ _ _ _ _ => pts_nil) (fun _ _ _ _ _ => pe_op op_add_str (pe_callTy (show CallR _ _ rStrI from call_str_int) (by rfl) m_str (by decide +kernel) (pa_cons (pv 2) pa_nil)) pe_str))))
      (pss_cons (ps_set (i := 0) scWri.nd rfl (.inl rfl) (pe_op op_cat (pv 0) (pe_lst (pa_cons (pv 1) (pa_cons (pe_slice (show SlR _ L2.rSlS from sl_str) (pv 1) po_none (po_some (pe_un un_neg pe_int))) (pa_cons (pe_op op_add_str (pe_slice (show SlR _ L2.rSlS from sl_str) (pv 1) po_none (po_some (pe_un un_neg pe_int))) pe_str) (pa_cons (pe_op op_add_str pe_str (pe_slice (show SlR _ L2.rSlS from sl_str) (pv 1) (po_some pe_int) po_none)) (pa_cons (pe_op op_add_str pe_str (pe_slice (show SlR _ L2.rSlS from sl_str) (pv 1) (po_some pe_int) (po_some (pe_un un_neg pe_int)))) pa_nil))))))))
      (pss_cons (ps_set (i := 0) scWri.nd rfl (.inl rfl) (pe_op op_cat (pv 0) (pe_lst (pa_cons (pe_join pe_str (pe_lc (own := [("_law_k", 2)]) (g := gName 2) (tt := tYes) rfl scWri.nd (pi_range1 (by rfl) m_range (pa_cons pe_int pa_nil)) (blkOk_by (own := [("_law_k", 2)]) (N := nWri) (sc := defScope sWri) (by decide +kernel)) (fun _ _ _ _ _ => pg_name (i := 2) scWri.nd rfl (Or.inl rfl)) (fun _ _ _ _ _ => pts_nil) (fun _ _ _ _ _ => pe_op op_add_str (pe_callTy (show CallR _ _ rStrI from call_str_int) (by rfl) m_str (by decide +kernel) (pa_cons (pv 2) pa_nil)) pe_str))) (pa_cons (pe_op op_add_str pe_str (pe_op op_mulS pe_str pe_int)) pa_nil)))))
      (pss_one (ps_ret (pe_op op_cat (pv 0) (pe_lst (pa_cons pe_str (pa_cons pe_str (pa_cons (pe_op op_add_str pe_str (pe_op op_mulS pe_str pe_int)) pa_nil)))))))))))), ?_⟩
    refine gs_setN (K := K) (gn_lst (gva_cons gv_str (gva_cons gv_str (gva_cons gv_str (gva_cons gv_str (gva_cons gv_str (gva_cons gv_str (gva_cons gv_str (gva_cons gv_str (gva_cons gv_str (gva_cons gv_str (gva_cons gv_str (gva_cons gv_str (gva_cons gv_str (gva_cons gv_str gva_nil)))))))))))))) (by show 14 ≤ sizeLine; decide)) fun L1 v1 H1 s1 n1 e1 d1 => ?_
    refine gs_setN (K := K) (gn_cat (gl_var (i := 0) rfl e1 d1) (gn_lst (gva_cons gv_str (gva_cons gv_str (gva_cons gv_str (gva_cons gv_str (gva_cons gv_str (gva_cons gv_str (gva_cons gv_str (gva_cons gv_str gva_nil)))))))) (by show 8 ≤ sizeLine; decide)).gl (by simp)) fun L2 v2 H2 s2 n2 e2 d2 => ?_
    refine gs_setN (K := K) (gn_cat (gl_var (i := 0) rfl e2 d2) (gn_lst (gva_cons gv_str (gva_cons gv_str (gva_cons gv_str (gva_cons gv_str (gva_cons gv_str (gva_cons gv_str (gva_cons gv_str (gva_cons gv_str (gva_cons gv_str gva_nil))))))))) (by show 9 ≤ sizeLine; decide)).gl (by simp)) fun L3 v3 H3 s3 n3 e3 d3 => ?_
    refine gs_set1 (K := K) (gv_joinB gv_str ((gn_lc (K := K) (δ := fun z : Nat => PyData.int (z : Int)) (as := List.range 11) (p := fun _ => true) (f := fun k : Nat => PyData.str (numT (k : Int) ++ (">" : Str))) (gvi_range (n := 11) (gv_int (i := 11)) (by decide)) (fun z vz Hz hz sz dz => ⟨gvt_yes, fun _ => gv_addS (gv_numS (gv_var (i := 2) rfl dz) (by omega) (by have := List.mem_range.mp hz; omega)) gv_str (num_len (by have := List.mem_range.mp hz; omega)) rfl⟩) (fun _ _ => rfl) (by decide)).gv.to (by rw [List.filter_eq_self.mpr (fun _ _ => rfl)]; exact congrArg PyData.list (List.map_map (f := fun k : Nat => numT (k : Int) ++ (">" : Str)) (g := PyData.str) (l := List.range 11)).symm)) (fun y hy => joinK_each (by decide) hy) (by decide) (by decide +kernel) rfl) fun vE HE sE dE => ?_
    cases dE
    have e3 := sE _ _ e3
    have d3 := d3.sm sE
    refine gs_setN (K := K) (gn_cat (gl_var (i := 0) rfl e3 d3) (gn_lst (gva_cons (gv_var (i := 1) rfl (.str (joinK 11))) (gva_cons (gv_cutST (k := (-4)) (gv_var (i := 1) rfl (.str (joinK 11))) (gv_neg (gv_int (i := 4))) (by decide +kernel)) (gva_cons (gv_addS (gv_cutST (k := (-4)) (gv_var (i := 1) rfl (.str (joinK 11))) (gv_neg (gv_int (i := 4))) (by decide +kernel)) gv_str (by decide +kernel) rfl) (gva_cons (gv_addS gv_str (gv_cutSF (k := 2) (gv_var (i := 1) rfl (.str (joinK 11))) (gv_int (i := 2)) (by decide +kernel)) (by decide +kernel) rfl) (gva_cons (gv_addS gv_str (gv_cutSB (k := 2) (j := (-4)) (gv_var (i := 1) rfl (.str (joinK 11))) (gv_int (i := 2)) (gv_neg (gv_int (i := 4))) (by decide +kernel)) (by decide +kernel) rfl) gva_nil))))) (by show 5 ≤ sizeLine; decide)).gl (by simp)) fun L4 v4 H4 s4 n4 e4 d4 => ?_
    refine gs_setN (K := K) (gn_cat (gl_var (i := 0) rfl e4 d4) (gn_lst (gva_cons (gv_joinB gv_str ((gn_lc (K := K) (δ := fun z : Nat => PyData.int (z : Int)) (as := List.range 30) (p := fun _ => true) (f := fun k : Nat => PyData.str (numT (k : Int) ++ (">" : Str))) (gvi_range (n := 30) (gv_int (i := 30)) (by decide)) (fun z vz Hz hz sz dz => ⟨gvt_yes, fun _ => gv_addS (gv_numS (gv_var (i := 2) rfl dz) (by omega) (by have := List.mem_range.mp hz; omega)) gv_str (num_len (by have := List.mem_range.mp hz; omega)) rfl⟩) (fun _ _ => rfl) (by decide)).gv.to (by rw [List.filter_eq_self.mpr (fun _ _ => rfl)]; exact congrArg PyData.list (List.map_map (f := fun k : Nat => numT (k : Int) ++ (">" : Str)) (g := PyData.str) (l := List.range 30)).symm)) (fun y hy => joinK_each (by decide) hy) (by decide) (by decide +kernel) rfl) (gva_cons (gv_addS gv_str (gv_mulS (n := 9) gv_str (gv_int (i := ((9 : Nat) : Int))) (by decide +kernel) (by decide)) (by decide +kernel) rfl) gva_nil)) (by show 2 ≤ sizeLine; decide)).gl (by simp)) fun L5 v5 H5 s5 n5 e5 d5 => ?_
    refine (gn_cat (K := K) (gl_var (i := 0) rfl e5 d5) (gn_lst (gva_cons gv_str (gva_cons gv_str (gva_cons (gv_addS gv_str (gv_mulS (n := 40) gv_str (gv_int (i := ((40 : Nat) : Int))) (by decide +kernel) (by decide)) (by decide +kernel) rfl) gva_nil))) (by show 3 ≤ sizeLine; decide)).gl (by simp)).at fun L6 v6 H6 s6 n6 e6 d6 => ?_
    have ev : v6 = wriL.map V.str := dpAll_strJ (l := wriL) d6
    rw [ev] at e6
    exact q H6 L6 (s1.trans (s2.trans (s3.trans (sE.trans (s4.trans (s5.trans s6)))))) (s1.free (s2.free (s3.free (sE.free (s4.free (s5.free n6)))))) e6
end
end K61
/-! The list of a text's words stands apart from the modules' table. -/
namespace Pr
open PySem PySem.Spec PyProof.Rows L2
open PySem.Builtin.Str
section
variable {X : Cx} {pins : List (Addr × Obj)} {σ : L2.St} {H : Hp} {s : Shared}
/-- what the words' list gives, its place told -/
def rSplG : V → List V → Hp → VK → Prop := fun x xs H Q => ∃ a b, x = .str a ∧ xs = [.str b] ∧ (b.length == 0) = false ∧ a.length + 2 ≤ sizeLine ∧ ∀ p, H p = none → p ≠ sysModules → Q (.ref p) (upd H p (.lst ((Txt.split a b).map V.str)))
/-- a new list is never the modules' table: told by the list's place -/
theorem strs_apart {l : List (Str × Tok)} {ys : List Str} {k : Nat} {Q : VK} (I : Inv X pins σ H s) (e : l.map (·.1) = ys) (hz : ys.length ≤ sizeLine) (h : ∀ p, H p = none → p ≠ sysModules → Q (.ref p) (upd H p (.lst (ys.map V.str)))) :
    EP X pins σ Q (.ref s.heap.objs.size) { s with toks := k, heap := s.heap.push { cls := .type "list", data := .seq (strValues l).toArray } } := by
  obtain ⟨v, H', I', r, p, ev, en, eH⟩ := laid_strs (k := k) (Q := fun v H' => ∃ p, v = .ref p ∧ H p = none ∧ H' = upd H p (.lst (ys.map V.str))) I e hz fun p np => ⟨p, rfl, np, rfl⟩
  subst ev eH
  have : Value.ref s.heap.objs.size = Value.ref p := r
  injection this with this
  subst this
  exact ⟨.ref _, _, I', rfl, h _ en (Nat.ne_of_gt I.big)⟩
theorem mt_splitG : MtR X "str.split" rSplG := by
  intro pins s σ H x xs v us Q I rx rs ⟨a, b, e1, e2, hb, hz, h⟩
  subst e1 e2
  obtain ⟨t, rfl⟩ := rx
  obtain ⟨w, rfl, u, rfl⟩ := vals1 rs
  have few : (Txt.split a b).length ≤ sizeLine := Nat.le_trans (PyProof.Rows.split_le a b) hz
  by_cases c1 : (decide (a.length < b.length) || decide (strKind a < strKind b)) = true
  · exact call_meets F.slot_str_split (typeIs_str _ _ _) F.entry_str_split (F.args_str_split_2 _ _) (meets_str_split_cannot_occur a b t u c1) (strs_apart (l := [(a, t)]) (ys := Txt.split a b) (k := s.toks) I (if_pos c1).symm few h)
  · have c1' := (Bool.not_eq_true _).mp c1
    by_cases c2 : (occurrences a b 0 a.length (a.length + 1)).isEmpty = true
    · exact call_meets F.slot_str_split (typeIs_str _ _ _) F.entry_str_split (F.args_str_split_2 _ _) (meets_str_split_not_found a b t u c1' hb c2) (strs_apart (l := [(a, t)]) (ys := Txt.split a b) (k := s.toks) I ((if_neg c1).trans (if_pos c2)).symm few h)
    · have c2' := (Bool.not_eq_true _).mp c2
      have many : (partsBetween a (occurrences a b 0 a.length (a.length + 1)) b.length).length ≤ sizeLine := by
        have := StrLaws.occ_length_le a b 0 a.length (a.length + 1)
        rw [length_partsBetween]; omega
      refine call_meets F.slot_str_split (typeIs_str _ _ _) F.entry_str_split (F.args_str_split_2 _ _) (meets_str_split_sep a b t u c1' hb c2' (by omega) many) ?_
      have fin := fun kk => strs_apart (k := kk) (l := numbered s.toks (partsBetween a (occurrences a b 0 a.length (a.length + 1)) b.length)) (ys := Txt.split a b) (Q := Q) I ((numbered_texts _ _).trans ((if_neg c1).trans (if_neg c2)).symm) few h
      show EP X pins σ Q (.ref s.heap.objs.size) { s with toks := _, heap := s.heap.push { cls := .type "list", data := .seq (strsFrom s.toks (partsBetween a (occurrences a b 0 a.length (a.length + 1)) b.length)).toArray } }
      rw [strsFrom_eq]
      exact fin _
theorem pe_splitG {o e : Expr} {to te : TE} {apos pos : Pos} (ho : PE X o to) (he : PE X e te) (hs : starEach [e] X.env = [(false, eval e X.env)] := by rfl) (hbase : attributeBase o "split" X.env (eval o X.env) = eval o X.env := by rfl) (hline : (apos.endLine == pos.line) = true := by rfl) :
    PE X (.Call (.Attribute o "split" apos) [e] [] pos) (tM1 rSplG to te) := pe_m1 F.slot_str_split F.type_str_split mt_splitG ho he hs hbase hline
end
end Pr
namespace K61
open PySem PySem.Spec PyProof.Rows L2 Pr
theorem ok_from : ∀ (ts : List Str) (k : Nat) (acc : Str), PyData.strOk acc = true → (∀ t ∈ ts, PyData.strOk t = true) → PyData.strOk (textFrom k acc ts) = true
  | [], _, _, h, _ => h
  | t :: r, k, acc, h, g => ok_from r (k + 1) _ (ok_app (ok_app h (by split <;> exact ok_of _)) (g t List.mem_cons_self)) fun z hz => g z (List.mem_cons_of_mem _ hz)
theorem ok_lstD {ds : List PyData} (h : ∀ d ∈ ds, PyData.strOk d.shown = true) : PyData.strOk (PyData.list ds).shown = true := by
  simp only [PyData.shown]
  rw [shownAll_map]
  refine ok_app (ok_from _ _ _ (ok_of "[") fun t ht => ?_) (ok_of "]")
  obtain ⟨i, hi, rfl⟩ := List.mem_map.mp ht
  exact h i hi

theorem gs_seqJ {t u : TS} {D : Ends} {σ : L2.St} {H : Hp} (J : L2.St → Hp → Prop) (hk : ∀ σ' H', J σ' H' → u D σ' H') (h : (∀ σ' H', J σ' H' → u D σ' H') → t { D with nx := u D } σ H) : tSeq t u D σ H := h hk
theorem ta_gv {K : PySem.W.Frag} {σ : L2.St} {H : Hp} {t : TE} {tr : TA} {d : PyData} {Q : List V → Hp → Prop} (h : Gv K t σ H d) (q : ∀ v H', Same H H' → Dp K H' v d → tr σ H' fun vs H'' => Q (v :: vs) H'') : tCons t tr σ H Q := h.at fun v H' s dv => q v H' s dv
theorem gs_setQ {σ : L2.St} {H : Hp} {t : TE} {i : Nat} {u : TS} {D : Ends} (h : t σ H fun v H' => u D (σ.set i (some v)) H') : tSeq (tAsg t (gName i)) u D σ H := h


theorem gs_forL {K : PySem.W.Frag} {a : Addr} {xs : List V} {j i : Nat} {tb : TS} {D : Ends} {σ : L2.St} {H : Hp} (hj : σ[j]? = some (some (.ref a))) (ha : H a = some (.lst xs)) (Pv : Nat → L2.St → Hp → Prop) (h0 : Pv 0 σ H) (hl : ∀ i σ H, Pv i σ H → H a = some (.lst xs))
    (hs : ∀ k x σ H, xs[k]? = some x → Pv k σ H → tb { D with nx := Pv (k + 1), ct := Pv (k + 1), bk := D.nx } (σ.set i (some x)) H) (hd : ∀ σ H, Pv xs.length σ H → D.nx σ H) : tFor (iList K (tVar j)) (gName i) tb D σ H :=
  ⟨.ref a, hj, a, rfl, ⟨_, .inl (.inl ha)⟩, for_list (K := K) (a := a) (xs := xs) (g := gName i) (tb := tb) (D := D) Pv h0 (fun i σ H _ hP => .inl (.inl (hl i σ H hP))) hs hd⟩
theorem gs_row {σ : L2.St} {H : Hp} {te : TE} {i j : Nat} {tu : TE} {u : TS} {D : Ends} (h : tCons te (tCons tu tNil) σ H fun vs H' => ∃ v w, vs = [v, w] ∧ u D ((σ.set i (some v)).set j (some w)) H') : tSeq (tPar i j (tCons te (tCons tu tNil))) u D σ H := h
theorem badP_le {m i : Nat} : ∀ (ws : List Str) (j : Nat), badP m j ws = some i → i < j + ws.length
  | [], j, h => by cases h
  | a :: r, j, h => by
    replace h : (if lstW m j a = none ∨ j = 10 then some j else badP m (j + 1) r) = some i := h
    rw [List.length_cons]
    split at h
    · injection h with h; omega
    · have := badP_le r _ h; omega
theorem badP_none {m : Nat} : ∀ (ws : List Str) (j : Nat), badP m j ws = none → ∀ k x, ws[k]? = some x → ∃ l, lstW m (j + k) x = some l ∧ j + k ≠ 10
  | [], j, h, k, x, hx => by simp at hx
  | a :: r, j, h, k, x, hx => by
    replace h : (if lstW m j a = none ∨ j = 10 then some j else badP m (j + 1) r) = none := h
    by_cases c : lstW m j a = none ∨ j = 10
    · rw [if_pos c] at h; cases h
    · rw [if_neg c] at h
      cases k with
      | zero =>
        simp only [List.getElem?_cons_zero, Option.some.injEq] at hx
        subst hx
        rw [Nat.add_zero]
        cases e : lstW m j a with
        | none => exact absurd (.inl e) c
        | some l => exact ⟨l, rfl, fun z => c (.inr z)⟩
      | succ k =>
        have := badP_none r _ h k x (by simpa using hx)
        rw [show j + (k + 1) = j + 1 + k by omega]
        exact this
theorem lstW_some {m i : Nat} {x : Str} {l : List Int} (h : lstW m i x = some l) : l.Pairwise (· < ·) ∧ ∀ y ∈ l, 0 ≤ y ∧ y < (m : Int) := by
  unfold lstW at h
  split at h
  · cases h
  · split at h
    · cases h
    · split at h
      · rename_i hok
        injection h with h
        subst h
        unfold okL at hok
        rw [Bool.and_eq_true, Bool.and_eq_true] at hok
        exact ⟨of_decide_eq_true hok.1.2, vals_rng hok.1.1⟩
      · cases h
theorem resP_okT {ws : List Str} (h : badP ws.length 0 ws = none) : OkT (valsP ws.length ws) := by
  have hk := badP_none ws 0 h
  have few : ws.length ≤ 10 := by
    refine Classical.byContradiction fun z => ?_
    obtain ⟨l, _, hne⟩ := hk 10 ws[10] (List.getElem?_eq_getElem (by omega))
    exact hne rfl
  have each : ∀ l ∈ valsP ws.length ws, l.Pairwise (· < ·) ∧ ∀ y ∈ l, 0 ≤ y ∧ y < (ws.length : Int) := fun l hl => by
    unfold valsP at hl
    obtain ⟨x, hx, rfl⟩ := List.mem_map.mp hl
    obtain ⟨h1, h2, h3⟩ := List.mem_zipIdx hx
    obtain ⟨l, e, _⟩ := hk x.2 x.1 (by rw [h3]; exact List.getElem?_eq_getElem (by omega))
    rw [Nat.zero_add] at e
    rw [e]
    exact lstW_some e
  refine ⟨by unfold valsP; rw [List.length_map, List.length_zipIdx]; exact few, fun l hl => ?_, fun l hl y hy => ?_⟩
  · have := pw_length (n := 10) (lo := 0) (each l hl).1 fun y hy => by have := (each l hl).2 y hy; omega
    omega
  · have := (each l hl).2 y hy
    exact ⟨this.1, by omega⟩
theorem shw_intsD {l : List Int} {m : Nat} (hl : l.length ≤ m) (h : ∀ x ∈ l, Dg x) : Shw 1 (m * 3 + 3) (dInts l) := shw_ints hl fun x hx => h x hx
theorem shw_okT {pan : List (List Int)} (g : OkT pan) : Shw 2 1853 (dPan pan) := by
  refine Shw.tuple (dep := 1) (n := 183) (m := 10) (fun d hd => ?_) (by rw [List.length_map]; exact g.few)
  obtain ⟨l, hl, rfl⟩ := List.mem_map.mp hd
  exact shw_intsD (m := 60) (g.sh l hl) (g.dg l hl)
theorem res_ok {d : PyData} (hl : ∀ x, d = .str x → x.length ≤ 640) : RepOk (resP d) ∧ PyData.strOk (resP d).shown = true := by
  have odd : RepOk (.list [.none]) ∧ PyData.strOk (PyData.list [.none]).shown = true := ⟨.inr ⟨⟨by decide +kernel, by decide +kernel, by decide +kernel, by decide +kernel⟩, _, .inr rfl⟩, by decide +kernel⟩
  cases d with
  | str x =>
    have hx := hl x rfl
    show RepOk (resPM x) ∧ PyData.strOk (resPM x).shown = true
    unfold resPM
    have h1 := split_tot sep_sp x
    have h2 := tot_len (Txt.split x (" " : Str))
    generalize Txt.split x (" " : Str) = ws at h1 h2
    cases hb : badP ws.length 0 ws with
    | some i =>
      have := badP_le _ _ hb
      have si : Shw 0 3 (.int (i : Int)) := Shw.int (k := 3) (by omega) (by decide) (by decide) (by omega)
      refine ⟨.inr ⟨((Shw.list (m := 1) (n := 3) (dep := 0) (ds := [.int (i : Int)]) (fun d hd => by rw [List.mem_singleton.mp hd]; exact si) (Nat.le_refl 1)).mono (by decide) (by decide)), _, .inr rfl⟩, ?_⟩
      exact ok_lstD fun d hd => by rw [List.mem_singleton.mp hd]; simp only [PyData.shown]; exact ok_of _
    | none =>
      exact ⟨.inr ⟨(shw_okT (resP_okT hb)).mono (by decide) (by decide), _, .inl rfl⟩, ok_tupT fun d hd => by obtain ⟨l, _, rfl⟩ := List.mem_map.mp hd; exact ok_ints l⟩
  | _ => exact odd
/-- the text of a panel is short, its words are few -/
theorem pan_text {pan : List (List Int)} (g : Good pan) : Sm 230 (panT pan) ∧ spn (panT pan) ≤ 9 ∧ Txt.split (panT pan) (" " : Str) = (pan.zipIdx.map fun x => listT (x.2 : Nat) x.1) ∧ ∀ z ∈ Txt.split (panT pan) (" " : Str), Sm 22 z := by
  have few := g.few
  have pos := g.pos
  have sh : ∀ l ∈ pan, l.length ≤ 10 := fun l hl => pw_length (n := 10) (lo := 0) (g.up l hl) fun x hx => by have := g.rng l hl x hx; omega
  have dg := g.okT.dg
  have es : Txt.split (panT pan) (" " : Str) = (pan.zipIdx.map fun x => listT (x.2 : Nat) x.1) := by
    refine TL.split_join (s := 32) (S := []) (by decide +kernel) (by decide +kernel) ?_ fun p hp => ?_
    · intro z
      have := congrArg List.length z
      rw [List.length_map, List.length_zipIdx] at this
      have z0 : ([] : List Str).length = 0 := rfl
      omega
    · obtain ⟨x, hx, rfl⟩ := List.mem_map.mp hp
      have hz := zip_ix hx
      exact listT_sp ⟨by omega, by omega⟩ (dg _ hz.2)
  have each : ∀ z ∈ (pan.zipIdx.map fun x => listT (x.2 : Nat) x.1), Sm 22 z := fun z hz => by
    obtain ⟨x, hx, rfl⟩ := List.mem_map.mp hz
    have hz := zip_ix hx
    exact (sm_list ⟨by omega, by omega⟩ (dg _ hz.2)).mono (by have := sh _ hz.2; omega)
  refine ⟨?_, ?_, es, by rw [es]; exact each⟩
  · unfold panT
    refine (sm_join ⟨by decide +kernel, by decide +kernel⟩ (k := 22) each).mono ?_
    rw [List.length_map, List.length_zipIdx]
    omega
  · have := (split_cnt (panT pan)).1
    rw [es, List.length_map, List.length_zipIdx] at this
    omega
/-- a value of the law's list: a text has few words -/
def VX (K : PySem.W.Frag) (X : Addr → Prop) (H : Hp) (v : V) : Prop := ∃ d, VW K X H v d ∧ ∀ x, d = .str x → spn x < 63
def VXs (K : PySem.W.Frag) (X : Addr → Prop) (H : Hp) (vs : List V) : Prop := ∀ v ∈ vs, VX K X H v
section
variable {K : PySem.W.Frag} {σ : L2.St} {H H' : Hp} {E : XK} {X : Addr → Prop} {vs us : List V}
theorem VXs.per (h : VXs K X H vs) (p : Per X H H') : VXs K X H' vs := fun v hv => let ⟨d, w, z⟩ := h v hv; ⟨d, w.per p, z⟩
theorem VXs.app (h : VXs K X H vs) (g : VXs K X H us) : VXs K X H (vs ++ us) := fun v hv => (List.mem_append.mp hv).elim (h v) (g v)
theorem vx_str {n : Nat} {x : Str} (h : Sm n x) (hn : n ≤ 600) (hs : spn x < 63) : VX K X H (.str x) := ⟨_, vw_str h hn, fun y e => by injection e with e; rw [← e]; exact hs⟩
theorem vx_of {v : V} {d : PyData} (w : VW K X H v d) (h : isS d = false) : VX K X H v := ⟨d, w, fun x e => by rw [e] at h; cases h⟩
theorem vxs_wri {ws : List V} (h : ∀ v ∈ ws, v ∈ wriL.map V.str) : VXs K X H ws := fun v hv => by
  obtain ⟨x, hx, rfl⟩ := List.mem_map.mp (h v hv)
  exact vx_str (wri_sm x hx).1 (by decide) (wri_sm x hx).2
theorem gv_Due2 {v : V} {d : PyData} {j : Nat} (h2 : σ[j]? = some (some v)) (hd : Dq K (fun _ => False) H v d) (hl : ∀ x, d = .str x → x.length ≤ 640 ∧ spn x < 63) : Gv K (tCall (spDue K) [] E (tCons (tVar j) tNil)) σ H (resP d) := fun H1 s Q q =>
  ⟨v, h2, fun _ => False, v, d, rfl, Dq.same s _ _ hd, hl, fun H' u s' du => q u H' s' du⟩
theorem gv_Told2 {v : V} {d : PyData} {j : Nat} (h2 : σ[j]? = some (some v)) (hd : Dq K (fun _ => False) H v d) (hl : ∀ x, d = .str x → x.length ≤ 640) : Gv K (tCall (spTold K) [] E (tCons (tVar j) tNil)) σ H (resP d) := fun H1 s Q q =>
  ⟨v, h2, fun _ => False, v, d, rfl, Dq.same s _ _ hd, fun x hx => by have := hl x hx; omega, fun H' u s' du => q u H' s' du⟩
def sgL : List Str := [("0" : Str), "1", "9", ">", ",", " ", "-", "+", "x", "\n", ":", "00"]
theorem sgs_ok : SgOk sgL := ⟨by unfold sgL; simp, by decide, fun x hx => smB_sm (List.all_eq_true.mp (show sgL.all (smB 4) = true by decide +kernel) x hx), fun x hx => by
  have := List.all_eq_true.mp (show sgL.all (fun x => decide (spn x ≤ 1)) = true by decide +kernel) x hx
  exact of_decide_eq_true this⟩
theorem eqv_two (s : Str) : PyData.eqv (.list [.str s, .str s]) (.list [.str s, .str s]) = true := by simp [PyData.eqv, PyData.eqvAll]
theorem shp_two {s : Str} (h : PyData.strOk s = true) : SeqAt.shaped (.list [.str s, .str s]) = true := shp_of (lay_strs h h) (by simp [PyData.depth, PyData.depthAll])
theorem dqAll_strs {N : Addr → Prop} (ws : List Str) : DqAll K N H (ws.map V.str) (ws.map PyData.str) := by
  induction ws with
  | nil => exact .nil
  | cons x l ih => exact .cons (.str x) ih
end

end K61
namespace K61
open PySem PySem.Spec PyProof.Rows L2 Pr
def nLaw : List Str := ["_law_script", "_law_state", "_law_signs", "_law_turn", "_law_text", "_law_values", "_law_k", "_law_once", "_law_value", "_law_kept", "_law_due", "_law_again"]
theorem scLaw : FnScope nLaw ["_law_script"] (defScope sLaw) := ⟨rfl, rfl, rfl, by decide +kernel, rfl, by decide +kernel, by decide +kernel⟩
section
variable {P : Program} {w : World} {K : PySem.W.Frag} {mg : Str → Option Value} {base : Heap}
def spLaw (K : PySem.W.Frag) : Sp := fun vs H Q _ => ∃ (s : Addr) (ns : List Int), vs = [.ref s] ∧ SqL K H s (ns.map V.int) ∧ ns.length ≤ 63 ∧ ∀ H', Q (.bl true) H'
theorem ok_law {fWordsOf : Addr} {fdWordsOf : FuncData} {fByText : Addr} {fdByText : FuncData} {fBtn : Addr} {fdBtn : FuncData} {fBtnT : Addr} {fdBtnT : FuncData} {fPList : Addr} {fdPList : FuncData} {fParse : Addr} {fdParse : FuncData} {fDraws : Addr} {fdDraws : FuncData} {fNext : Addr} {fdNext : FuncData} {fOne : Addr} {fdOne : FuncData} {fPanel : Addr} {fdPanel : FuncData} {fLPanT : Addr} {fdLPanT : FuncData} {fNum : Addr} {fdNum : FuncData} {fLList : Addr} {fdLList : FuncData} {fDue : Addr} {fdDue : FuncData} {fBent : Addr} {fdBent : FuncData} {fOdd : Addr} {fdOdd : FuncData} {fTold : Addr} {fdTold : FuncData} {fWri : Addr} {fdWri : FuncData} {f : Addr} {fd : FuncData} (F : Fun K "law" "law" sLaw f fd)
    (FWordsOf : Fun K "words_of" "words_of" sWordsOf fWordsOf fdWordsOf) (bWordsOf : Binds K fdWordsOf ["value"] []) (gWordsOf : mg "words_of" = some (.ref fWordsOf))
    (FByText : Fun K "buttons_by_text" "buttons_by_text" sByText fByText fdByText) (bByText : Binds K fdByText ["many"] []) (gByText : mg "buttons_by_text" = some (.ref fByText))
    (FBtn : Fun K "is_button" "is_button" sBtn fBtn fdBtn) (bBtn : Binds K fdBtn ["value", "many"] []) (gBtn : mg "is_button" = some (.ref fBtn))
    (FBtnT : Fun K "is_button_tuple" "is_button_tuple" sBtnT fBtnT fdBtnT) (bBtnT : Binds K fdBtnT ["value", "many"] []) (gBtnT : mg "is_button_tuple" = some (.ref fBtnT))
    (FPList : Fun K "parse_list" "parse_list" sPList fPList fdPList) (bPList : Binds K fdPList ["word", "button", "buttons"] []) (gPList : mg "parse_list" = some (.ref fPList))
    (FParse : Fun K "parse_panel" "parse_panel" sParse fParse fdParse) (bParse : Binds K fdParse ["value"] []) (gParse : mg "parse_panel" = some (.ref fParse))
    (FDraws : Fun K "_law_draws" "_law_draws" sDraws fDraws fdDraws) (bDraws : Binds K fdDraws ["_law_script"] []) (gDraws : mg "_law_draws" = some (.ref fDraws))
    (FNext : Fun K "_law_next" "_law_next" sNext fNext fdNext) (bNext : Binds K fdNext ["_law_state", "_law_many"] []) (gNext : mg "_law_next" = some (.ref fNext))
    (FOne : Fun K "_law_one" "_law_one" sOne fOne fdOne) (bOne : Binds K fdOne ["_law_state", "_law_items"] []) (gOne : mg "_law_one" = some (.ref fOne))
    (FPanel : Fun K "_law_panel" "_law_panel" sPanel fPanel fdPanel) (bPanel : Binds K fdPanel ["_law_state", "_law_most"] []) (gPanel : mg "_law_panel" = some (.ref fPanel))
    (FLPanT : Fun K "_law_panel_text" "_law_panel_text" sLPanT fLPanT fdLPanT) (bLPanT : Binds K fdLPanT ["_law_panel_here"] []) (gLPanT : mg "_law_panel_text" = some (.ref fLPanT))
    (FNum : Fun K "_law_number" "_law_number" sNum fNum fdNum) (bNum : Binds K fdNum ["_law_word"] []) (gNum : mg "_law_number" = some (.ref fNum))
    (FLList : Fun K "_law_list" "_law_list" sLList fLList fdLList) (bLList : Binds K fdLList ["_law_word", "_law_index", "_law_many"] []) (gLList : mg "_law_list" = some (.ref fLList))
    (FDue : Fun K "_law_panel_due" "_law_panel_due" sDue fDue fdDue) (bDue : Binds K fdDue ["_law_value"] []) (gDue : mg "_law_panel_due" = some (.ref fDue))
    (FBent : Fun K "_law_bent" "_law_bent" sBent fBent fdBent) (bBent : Binds K fdBent ["_law_state", "_law_text", "_law_signs"] []) (gBent : mg "_law_bent" = some (.ref fBent))
    (FOdd : Fun K "_law_odd" "_law_odd" sOdd fOdd fdOdd) (bOdd : Binds K fdOdd ["_law_state"] []) (gOdd : mg "_law_odd" = some (.ref fOdd))
    (FTold : Fun K "_law_told" "_law_told" sTold fTold fdTold) (bTold : Binds K fdTold ["_law_value"] []) (gTold : mg "_law_told" = some (.ref fTold))
    (FWri : Fun K "_law_written" "_law_written" sWri fWri fdWri) (bWri : Binds K fdWri [] []) (gWri : mg "_law_written" = some (.ref fWri))
    (m_LookupError : mg "LookupError" = none) (m_abs : mg "abs" = none) (m_bool : mg "bool" = none) (m_enumerate : mg "enumerate" = none) (m_int : mg "int" = none) (m_isinstance : mg "isinstance" = none) (m_len : mg "len" = none) (m_range : mg "range" = none) (m_repr : mg "repr" = none) (m_set : mg "set" = none) (m_sorted : mg "sorted" = none) (m_str : mg "str" = none) (m_tuple : mg "tuple" = none) {C CP CB CR CS fI : Addr} {fdI : FuncData} {tk : Tok} (T : ExF K mg "BadText" "index" "BadText.__init__" sInitT C fI fdI) (Y : TryTxt K mg C CP CB CR CS) (y_MAX_BUTTONS : mg "MAX_BUTTONS" = some (.int 10 tk)) : FnG P w K mg base (6) f fd ["_law_script"] (spLaw K) := by
  have GDraws : FnOk P w K mg base CX0 (1) fDraws fdDraws ["_law_script"] (spDraws K) := ok_Draws FDraws m_abs m_int m_len
  have GLPanT : FnOk P w K mg base CX0 (1) fLPanT fdLPanT ["_law_panel_here"] (spLPanT K) := ok_LPanT FLPanT m_len m_range m_str
  have GPanel : FnOk P w K mg base CX0 (2) fPanel fdPanel ["_law_state", "_law_most"] (spPanel K) := ok_Panel FPanel FNext bNext gNext m_len m_range m_tuple
  have GOdd : FnOk P w K mg base CX0 (2) fOdd fdOdd ["_law_state"] (spOdd K) := ok_Odd FOdd FNext bNext gNext m_len
  have GWri : FnOk P w K mg base CX0 (1) fWri fdWri [] (spWri K) := ok_Wri FWri m_range m_str
  have GNext : FnOk P w K mg base CX0 (1) fNext fdNext ["_law_state", "_law_many"] spNext := ok_Next FNext m_len
  have GBent : FnOk P w K mg base CX0 (3) fBent fdBent ["_law_state", "_law_text", "_law_signs"] (spBent K) := ok_Bent FBent FNext bNext gNext FOne bOne gOne m_len
  have GDue : FnOk P w K mg base CX0 (3) fDue fdDue ["_law_value"] (spDue K) := ok_Due FDue FNum bNum gNum FLList bLList gLList m_enumerate m_int m_isinstance m_len m_set m_sorted m_str m_tuple
  have GTold : FnOk P w K mg base CX0 (5) fTold fdTold ["_law_value"] (spTold K) := ok_Told FTold FWordsOf bWordsOf gWordsOf FByText bByText gByText FBtn bBtn gBtn FBtnT bBtnT gBtnT FPList bPList gPList FParse bParse gParse m_LookupError m_bool m_enumerate m_int m_isinstance m_len m_range m_str m_tuple T Y y_MAX_BUTTONS
  refine okG F scLaw (fun vs H Q E h => ?_) (fun cdv A outer s H vs Q E gd hr h => ?_)
  · obtain ⟨s, ns, rfl, _⟩ := h
    rfl
  · obtain ⟨sc, ns, rfl, hS, hlen, q⟩ := h
    refine ⟨_, pss_cons (ps_set (i := 1) scLaw.nd rfl (.inl rfl) (pe_call GDraws (hr.mono (by omega)) (by rfl) gDraws FDraws.kp bDraws .nil pass0 (pa_cons (pv 0) pa_nil)))
      (pss_cons (ps_set (i := 2) scLaw.nd rfl (.inl rfl) (pe_lst (pa_cons pe_str (pa_cons pe_str (pa_cons pe_str (pa_cons pe_str (pa_cons pe_str (pa_cons pe_str (pa_cons pe_str (pa_cons pe_str (pa_cons pe_str (pa_cons pe_str (pa_cons pe_str (pa_cons pe_str pa_nil))))))))))))))
      (pss_cons (ps_for PassesOwn.never rfl (pi_range1 (by rfl) m_range (pa_cons pe_int pa_nil)) (pg_name (i := 3) scLaw.nd rfl (Or.inl rfl)) (pss_cons (ps_set (i := 4) scLaw.nd rfl (.inl rfl) (pe_call GLPanT (hr.mono (by omega)) (by rfl) gLPanT FLPanT.kp bLPanT .nil pass0 (pa_cons (pe_call GPanel (hr.mono (by omega)) (by rfl) gPanel FPanel.kp bPanel .nil pass0 (pa_cons (pv 1) (pa_cons (pe_ix (show IxR _ (rIxL K) from ix_list) (pe_lst (pa_cons pe_int (pa_cons pe_int pa_nil))) (pe_op op_mod (pv 3) pe_int) (fun _ _ => rfl)) pa_nil))) pa_nil)))
      (pss_cons (ps_set (i := 5) scLaw.nd rfl (.inl rfl) (pe_op op_cat (pe_lst (pa_cons (pv 4) (pa_cons (pe_lstG (pa_cons (pv 4) pa_nil)) (pa_cons (pe_tup (pa_cons (pv 4) pa_nil)) (pa_cons (pe_splitG (pv 4) pe_str) (pa_cons (pe_call GOdd (hr.mono (by omega)) (by rfl) gOdd FOdd.kp bOdd .nil pass0 (pa_cons (pv 1) pa_nil)) pa_nil)))))) (show PE _ _ (tStepL K _ _) from pe_stepL (pe_call0 GWri (hr.mono (by omega)) (by rfl) gWri FWri.kp bWri .nil pass0) (pe_call GNext (hr.mono (by omega)) (by rfl) gNext FNext.kp bNext .nil pass0 (pa_cons (pv 1) (pa_cons pe_int pa_nil))))))
      (pss_cons (ps_for PassesOwn.never rfl (pi_range1 (by rfl) m_range (pa_cons pe_int pa_nil)) (pg_name (i := 6) scLaw.nd rfl (Or.inl rfl)) (pss_cons (ps_set (i := 7) scLaw.nd rfl (.inl rfl) (pe_call GBent (hr.mono (by omega)) (by rfl) gBent FBent.kp bBent .nil pass0 (pa_cons (pv 1) (pa_cons (pv 4) (pa_cons (pv 2) pa_nil)))))
      (pss_one (ps_set (i := 5) scLaw.nd rfl (.inl rfl) (pe_op op_cat (pv 5) (pe_lst (pa_cons (pv 7) (pa_cons (pe_call GBent (hr.mono (by omega)) (by rfl) gBent FBent.kp bBent .nil pass0 (pa_cons (pv 1) (pa_cons (pv 7) (pa_cons (pv 2) pa_nil)))) pa_nil))))))))
      (pss_one (ps_for PassesOwn.never rfl (show PI _ _ _ (iList K _) from pi_list (pv 5)) (pg_name (i := 8) scLaw.nd rfl (Or.inr rfl)) (pss_cons (ps_par (i := 9) (j := 10) rfl scLaw.nd rfl rfl (by decide) rfl rfl (pa_cons (pe_callB (show CallR _ _ (rReprA K) from cr_reprA gd hr) (by rfl) m_repr (by decide +kernel) (pa_cons (pv 8) pa_nil)) (pa_cons (pe_callB (show CallR _ _ (rReprA K) from cr_reprA gd hr) (by rfl) m_repr (by decide +kernel) (pa_cons (pe_call GDue (hr.mono (by omega)) (by rfl) gDue FDue.kp bDue .nil pass0 (pa_cons (pv 8) pa_nil)) pa_nil)) pa_nil)) (by rfl))
      (pss_one (ps_if (PW.pt (pw_or (pt_cmpR (show OpR _ _ (rNeD K) from op_neD hr.units) (pe_lc (own := [("_law_again", 11)]) (g := gName 11) (tt := tYes) rfl scLaw.nd (pi_range1 (by rfl) m_range (pa_cons pe_int pa_nil)) (blkOk_by (own := [("_law_again", 11)]) (N := nLaw) (sc := defScope sLaw) (by decide +kernel)) (fun _ _ _ _ _ => pg_name (i := 11) scLaw.nd rfl (Or.inl rfl)) (fun _ _ _ _ _ => pts_nil) (fun _ _ _ _ _ => pe_callB (show CallR _ _ (rReprA K) from cr_reprA gd hr) (by rfl) m_repr (by decide +kernel) (pa_cons (pe_call GTold (hr.mono (by omega)) (by rfl) gTold FTold.kp bTold .nil pass0 (pa_cons (pv 8) pa_nil)) pa_nil))) (pe_lst (pa_cons (pv 10) (pa_cons (pv 10) pa_nil))) (nomark _)) (pw_or1 (pt_cmpR op_ne (pe_callB (show CallR _ _ (rReprA K) from cr_reprA gd hr) (by rfl) m_repr (by decide +kernel) (pa_cons (pv 8) pa_nil)) (pv 9) (nomark _))))) (pss_one (ps_ret pe_bl)) pss_nil)))))))))
      (pss_cons (ps_for PassesOwn.never rfl (show PI _ _ _ (iList K _) from pi_list (pe_op op_cat (pe_call0 GWri (hr.mono (by omega)) (by rfl) gWri FWri.kp bWri .nil pass0) (pe_lst (pa_cons pe_non (pa_cons pe_int (pa_cons pe_bl pa_nil)))))) (pg_name (i := 8) scLaw.nd rfl (Or.inr rfl)) (pss_one (ps_if (pt_cmpR op_ne (pe_callB (show CallR _ _ (rReprA K) from cr_reprA gd hr) (by rfl) m_repr (by decide +kernel) (pa_cons (pe_call GTold (hr.mono (by omega)) (by rfl) gTold FTold.kp bTold .nil pass0 (pa_cons (pv 8) pa_nil)) pa_nil)) (pe_callB (show CallR _ _ (rReprA K) from cr_reprA gd hr) (by rfl) m_repr (by decide +kernel) (pa_cons (pe_call GDue (hr.mono (by omega)) (by rfl) gDue FDue.kp bDue .nil pass0 (pa_cons (pv 8) pa_nil)) pa_nil)) (nomark _)) (pss_one (ps_ret pe_bl)) pss_nil)))
      (pss_one (ps_ret pe_bl))))), ?_⟩
    refine ⟨.ref sc, rfl, sc, ns, rfl, hS, hlen, fun H1 a c r s1 D1 => ?_⟩
    refine gs_setN (K := K) (ds := sgL.map PyData.str) (gn_lst (gva_cons gv_str (gva_cons gv_str (gva_cons gv_str (gva_cons gv_str (gva_cons gv_str (gva_cons gv_str (gva_cons gv_str (gva_cons gv_str (gva_cons gv_str (gva_cons gv_str (gva_cons gv_str (gva_cons gv_str gva_nil)))))))))))) (by show 12 ≤ sizeLine; decide)) fun I vI H2 s2 nI eI dI => ?_
    have evI := dpAll_strJ (l := sgL) dI
    rw [evI] at eI
    have oI := D1.fresh nI
    have oI : I ≠ a ∧ I ≠ r := ⟨oI.1, oI.2.1⟩
    have nX : ∀ {b : Addr}, b ≠ a ∧ b ≠ r → ¬ DkX a r b := fun h z => z.elim h.1 h.2
    refine gs_seqJ (fun σ _ => ∃ x3 x4 x5 x6 x7 x8 x9 x10 x11, σ = [some (.ref sc), some (.ref a), some (.ref I), x3, x4, x5, x6, x7, x8, x9, x10, x11]) (fun σ H2 hP => ?last) fun hk0 => ?_
    case last =>
      obtain ⟨x3, x4, x5, x6, x7, x8, x9, x10, x11, rfl⟩ := hP
      refine gs_seqJ (fun σ _ => True) (fun σ H2 _ => gs_ret (K := K) gv_bl fun v H3 s3 dv => by cases dv; exact q H3) fun hk1 => ?_
      refine ⟨rfl, fun HW W sW nW eW => ?_⟩
      refine ⟨by show 3 ≤ sizeLine; decide, fun B nB => ?_⟩
      have uB := same_new (o := HO.lst [.non, .int 3, .bl true]) nB
      refine ⟨W, B, _, _, rfl, rfl, uB _ _ eW, upd_same, by rw [List.length_map, wri_len]; exact Nat.le_of_lt (small5 (by show _ + 3 ≤ _; decide)), fun V1 nV1 => ?_⟩
      have vxs : VXs K (fun _ => False) (upd (upd HW B (.lst [.non, .int 3, .bl true])) V1 (.lst (wriL.map V.str ++ [.non, .int 3, .bl true]))) (wriL.map V.str ++ [.non, .int 3, .bl true]) := by
        refine VXs.app (vxs_wri fun v hv => hv) fun v hv => ?_
        have lo : ∀ d, lowB d = true → Low d := fun _ h => h
        rcases (show v = .non ∨ v = .int 3 ∨ v = .bl true by simpa using hv) with rfl | rfl | rfl
        · exact vx_of (d := .none) (vw_of (fun _ => .non) (lo _ (by decide +kernel)) (fun _ => by intro z; cases z)) rfl
        · exact vx_of (d := .int 3) (vw_of (fun _ => .int _) (lo _ (by decide +kernel)) (fun _ => by intro z; cases z)) rfl
        · exact vx_of (d := .bool true) (vw_of (fun _ => .bl _) (lo _ (by decide +kernel)) (fun _ => by intro z; cases z)) rfl
      have eV : (upd (upd HW B (.lst [.non, .int 3, .bl true])) V1 (.lst (wriL.map V.str ++ [.non, .int 3, .bl true]))) V1 = some (.lst (wriL.map V.str ++ [.non, .int 3, .bl true])) := upd_same
      generalize wriL.map V.str ++ [.non, .int 3, .bl true] = vs at vxs eV ⊢
      generalize upd (upd HW B (.lst [.non, .int 3, .bl true])) V1 (.lst vs) = HV at vxs eV ⊢
      refine ⟨V1, rfl, ⟨_, .inl (.inl eV)⟩, for_list (K := K) (a := V1) (xs := vs) (g := gName 8) (fun k σ H' => Same HV H' ∧ ∃ x3 x4 x5 x6 x7 x8 x9 x10 x11, σ = [some (.ref sc), some (.ref a), some (.ref I), x3, x4, x5, x6, x7, x8, x9, x10, x11])
        ⟨Same.refl _, _, _, _, _, _, _, _, _, _, rfl⟩ (fun k σ H' _ hP => .inl (.inl (hP.1 _ _ eV))) (fun k x σ H' hx hP => ?_) (fun σ H' hP => hk1 σ H' trivial)⟩
      obtain ⟨sH, x3, x4, x5, x6, x7, x8, x9, x10, x11, rfl⟩ := hP
      obtain ⟨d, w, hsp⟩ := vxs x (List.mem_of_getElem? hx)
      have dq := w.dq H' (Per.of sH)
      have hl : ∀ y, d = .str y → y.length ≤ 640 := fun y hy => by have := (w.st y hy).ln; omega
      obtain ⟨ro, so'⟩ := res_ok (d := d) hl
      refine gs_noN (gvt_test (K := K) (gv_neS (gv_reprA (gv_Told2 (j := 8) rfl dq hl) ro) (gv_reprA (gv_Due2 (j := 8) rfl dq fun y hy => ⟨hl y hy, hsp y hy⟩) ro))) (by simp) fun HI sI => ?_
      exact ⟨sH.trans sI, _, _, _, _, _, _, _, _, _, rfl⟩
    refine gs_range (K := K) (n := 4) (gv_int (i := 4)) (by decide) (fun _ i σ H5 => Dk3 H5 a c r (100000 - 1000 * i) ∧ H5 I = some (.lst (sgL.map V.str)) ∧ ∃ x3 x4 x5 x6 x7 x8 x9 x10 x11, σ = [some (.ref sc), some (.ref a), some (.ref I), x3, x4, x5, x6, x7, x8, x9, x10, x11])
      (fun H3 s3 => ⟨((D1.same s2).same s3).less (by omega), s3 _ _ eI, _, _, _, _, _, _, _, _, _, rfl⟩) (fun Hx i σ H5 sx hi hP => ?_) (fun Hx σ H5 sx hP => hk0 σ H5 hP.2.2)
    obtain ⟨D5, eI5, x3, x4, x5, x6, x7, x8, x9, x10, x11, rfl⟩ := hP
    obtain ⟨lim, hlim, lm1, lm10⟩ : ∃ lim : Int, ([PyData.int 10, .int 4] : List PyData)[i % 2]? = some (.int lim) ∧ 1 ≤ lim ∧ lim ≤ 10 := by
      obtain h | h : i % 2 = 0 ∨ i % 2 = 1 := by omega
      all_goals (rw [h]; exact ⟨_, rfl, by decide, by decide⟩)
    refine ⟨.ref a, rfl, (gv_ixL (K := K) (j := i % 2) (gv_lst (gva_cons gv_int (gva_cons gv_int gva_nil))) (gv_I (gv_var (i := 3) rfl (.int (i : Int))) gv_int (by show (0 : Int) < 2; decide) (fun _ => .int _)) (by omega) hlim).at fun vl H6 s6 dl => ?_⟩
    cases dl
    refine ⟨a, c, r, 100000 - 1000 * i - 200, lim, rfl, (D5.same s6).less (by omega), lm1, lm10, fun H7 vp pan b7 D7 dp g lp => ?_⟩
    have b57 := But.trans (But.of s6) b7
    have eI7 := b57 _ _ oI.1 oI.2 eI5
    have few := g.few
    have pos := g.pos
    refine ⟨pan, .cons dp .nil, g.okT, fun vt H8 s8 dt => ?_⟩
    cases dt
    obtain ⟨psm, psp, pspl, pw⟩ := pan_text g
    have eI8 := s8 _ _ eI7
    have D8 := D7.same s8
    generalize panT pan = tx at psm psp pspl pw ⊢
    unfold gName
    dsimp only
    refine gs_setQ ?_
    refine ⟨.str tx, rfl, .str tx, rfl, by show 1 ≤ sizeLine; decide, fun L1 n1 z1 => ?_⟩
    have t1 := same_new (o := HO.lst [.str tx]) n1
    have o1 := D8.fresh n1
    refine ⟨.str tx, rfl, by show 1 ≤ sizeLine; decide, fun T1 n2 => ?_⟩
    have t2 := same_new (o := HO.tup [.str tx]) n2
    have o2 := (D8.same t1).fresh n2
    refine ⟨.str tx, rfl, ⟨tx, rfl⟩, tx, (" " : Str), rfl, rfl, by decide +kernel, Nat.le_of_lt (small5 (by have := psm.ln; omega)), fun W1 n3 z3 => ?_⟩
    have t3 := same_new (o := HO.lst ((Txt.split tx (" " : Str)).map V.str)) n3
    have o3 := ((D8.same t1).same t2).fresh n3
    have D83 := ((D8.same t1).same t2).same t3
    refine ⟨.ref a, rfl, a, c, r, 100000 - 1000 * i - 210, rfl, D83.less (by omega), fun Hodd vo od bO DO wo so => ?_⟩
    have eI83 := t3 _ _ (t2 _ _ (t1 _ _ eI8))
    have pB : Per (DkX a r) _ Hodd := Per.but (.inl rfl) (.inr rfl) bO
    have eL1 := pB _ _ (nX ⟨o1.1, o1.2.1⟩) (t3 _ _ (t2 _ _ (upd_same (a := L1) (H := H8) (o := HO.lst [.str tx]))))
    have eT1 := pB _ _ (nX ⟨o2.1, o2.2.1⟩) (t3 _ _ (upd_same (a := T1) (H := upd H8 L1 (.lst [.str tx])) (o := HO.tup [.str tx])))
    have eW1 := pB _ _ (nX ⟨o3.1, o3.2.1⟩) (upd_same (a := W1) (H := upd (upd H8 L1 (.lst [.str tx])) T1 (.tup [.str tx])) (o := HO.lst ((Txt.split tx (" " : Str)).map V.str)))
    have eIO := bO _ _ oI.1 oI.2 eI83
    refine ⟨by show 5 ≤ sizeLine; decide, fun V0 nV0 => ?_⟩
    have t4 := same_new (o := HO.lst [.str tx, .ref L1, .ref T1, .ref W1, vo]) nV0
    have eV0 := upd_same (a := V0) (H := Hodd) (o := HO.lst [.str tx, .ref L1, .ref T1, .ref W1, vo])
    have oV0 := DO.fresh nV0
    have D4 := DO.same t4
    have p4 : Per (DkX a r) Hodd (upd Hodd V0 (.lst [.str tx, .ref L1, .ref T1, .ref W1, vo])) := Per.of t4
    have vx5 : VXs K (DkX a r) Hodd [.str tx, .ref L1, .ref T1, .ref W1, vo] := by
      have sq1 : Shq 0 (10 * 230 + 2) (.str tx) := shq_str psm (by decide)
      intro v hv
      rcases (show v = .str tx ∨ v = .ref L1 ∨ v = .ref T1 ∨ v = .ref W1 ∨ v = vo by simpa using hv) with rfl | rfl | rfl | rfl | rfl
      · exact vx_str psm (by decide) (by omega)
      · exact vx_of (vw_lst (nX ⟨o1.1, o1.2.1⟩) eL1 z1 (fun _ _ => .cons (.str _) .nil) ((Shq.list (m := 1) (ds := [.str tx]) (fun d hd => by rw [List.mem_singleton.mp hd]; exact sq1) (Nat.le_refl 1)).mono (by decide) (by decide))) rfl
      · exact vx_of (vw_tup (nX ⟨o2.1, o2.2.1⟩) eT1 (fun _ _ => .cons (.str _) .nil) ((Shq.tuple (m := 1) (ds := [.str tx]) (fun d hd => by rw [List.mem_singleton.mp hd]; exact sq1) (Nat.le_refl 1)).mono (by decide) (by decide))) rfl
      · refine vx_of (vw_lst (nX ⟨o3.1, o3.2.1⟩) eW1 z3 (fun _ _ => dqAll_strs _) ((Shq.list (m := 10) (n := 10 * 22 + 2) (dep := 0) (fun d hd => ?_) ?_).mono (by decide) (by decide))) rfl
        · obtain ⟨z, hz, rfl⟩ := List.mem_map.mp hd
          exact shq_str (pw z hz) (by decide)
        · rw [List.length_map, pspl, List.length_map, List.length_zipIdx]; exact few
      · exact vx_of wo so
    refine gen_heap (fun HF => Dk3 HF a c r (100000 - 1000 * i - 210) ∧ HF I = some (.lst (sgL.map V.str)) ∧ HF V0 = some (.lst [.str tx, .ref L1, .ref T1, .ref W1, vo]) ∧ VXs K (DkX a r) HF [.str tx, .ref L1, .ref T1, .ref W1, vo]) ⟨D4, t4 _ _ eIO, eV0, vx5.per p4⟩ fun HA ⟨DA, eIA, eVA, vxA⟩ => ?_
    refine ⟨rfl, fun HW W sW nW eW => ⟨W, _, rfl, .inl (.inl eW), ?_⟩⟩
    have DW := DA.same sW
    have oW := DA.fresh nW
    refine ⟨.ref a, rfl, a, c, r, 100000 - 1000 * i - 220, 4, rfl, DW.less (by omega), by decide, by decide, fun HN x bN DN x0 x4 => ?_⟩
    obtain ⟨kk, rfl⟩ : ∃ kk : Nat, x = (kk : Int) := ⟨x.toNat, (Int.toNat_of_nonneg x0).symm⟩
    have eWN := bN _ _ oW.1 oW.2.1 eW
    have eVN := bN _ _ oV0.1 oV0.2.1 (sW _ _ eVA)
    have eIN := bN _ _ oI.1 oI.2 (sW _ _ eIA)
    have pN : Per (DkX a r) HA HN := (Per.of sW).trans (Per.but (.inl rfl) (.inr rfl) bN)
    refine ⟨(kk : Int), rfl, kk, rfl, .inl (.inl eWN), by rw [List.length_map, wri_len]; decide, fun p ys np hys lys => ?_⟩
    have up := same_new (o := HO.lst ys) np
    rw [List.length_map, wri_len] at lys
    refine ⟨V0, p, _, _, rfl, rfl, up _ _ eVN, upd_same, Nat.le_of_lt (small5 (by show 5 + ys.length ≤ _; omega)), fun V1 nV1 => ?_⟩
    have u1 := same_new (o := HO.lst ([.str tx, .ref L1, .ref T1, .ref W1, vo] ++ ys)) nV1
    have upv := up.trans u1
    have o4 := (DN.same up).fresh nV1
    have vxN : VXs K (DkX a r) (upd (upd HN p (.lst ys)) V1 (.lst ([.str tx, .ref L1, .ref T1, .ref W1, vo] ++ ys))) ([.str tx, .ref L1, .ref T1, .ref W1, vo] ++ ys) := VXs.app (vxA.per (pN.trans (Per.of upv))) (vxs_wri hys)
    have vl : ([.str tx, .ref L1, .ref T1, .ref W1, vo] ++ ys : List V).length ≤ 100 := by rw [List.length_append]; show 5 + ys.length ≤ 100; omega
    generalize [.str tx, .ref L1, .ref T1, .ref W1, vo] ++ ys = vs0 at vxN vl upv ⊢
    refine gen_heap (fun HF => Dk3 HF a c r (100000 - 1000 * i - 220) ∧ HF I = some (.lst (sgL.map V.str)) ∧ HF V1 = some (.lst vs0) ∧ VXs K (DkX a r) HF vs0) ⟨DN.same upv, upv _ _ eIN, upd_same, vxN⟩ fun HF ⟨DF, eIF, eVF, vwF⟩ => ?_
    refine gs_seqJ (fun σ H' => Dk3 H' a c r (100000 - 1000 * (i + 1)) ∧ H' I = some (.lst (sgL.map V.str)) ∧ ∃ (Vv : Addr) (vs : List V), H' Vv = some (.lst vs) ∧ VXs K (DkX a r) H' vs ∧ ∃ x6 x7 x8 x9 x10 x11, σ = [some (.ref sc), some (.ref a), some (.ref I), some (.int (i : Int)), some (.str tx), some (.ref Vv), x6, x7, x8, x9, x10, x11]) ?rest fun hk => ?_
    case rest =>
      rintro σ HG ⟨DG, eIG, Vv, vs, eVG, vwG, x6, x7, x8, x9, x10, x11, rfl⟩
      refine gs_forL (K := K) (a := Vv) (j := 5) (i := 8) (xs := vs) rfl eVG (fun k σ H' => Same HG H' ∧ ∃ x6 x7 x8 x9 x10 x11, σ = [some (.ref sc), some (.ref a), some (.ref I), some (.int (i : Int)), some (.str tx), some (.ref Vv), x6, x7, x8, x9, x10, x11])
        ⟨Same.refl _, _, _, _, _, _, _, rfl⟩ (fun k σ H' hP => hP.1 _ _ eVG) (fun k x σ H' hx hP => ?_) (fun σ H' hP => ?_)
      · obtain ⟨sH, x6, x7, x8, x9, x10, x11, rfl⟩ := hP
        obtain ⟨d, w, hsp⟩ := vwG x (List.mem_of_getElem? hx)
        have dq := w.dq H' (Per.of sH)
        have hl : ∀ y, d = .str y → y.length ≤ 640 := fun y hy => by have := (w.st y hy).ln; omega
        obtain ⟨ro, so'⟩ := res_ok (d := d) hl
        refine gs_parQ (ta_gv (K := K) (gv_reprAq (i := 8) rfl dq w.sh) fun u1 HI sI d1 => ?_)
        cases d1
        have dqI := Dq.same sI _ _ dq
        refine ta_gv (K := K) (gv_reprA (gv_Due2 (j := 8) rfl dqI fun y hy => ⟨hl y hy, hsp y hy⟩) ro) fun u2 HJ sJ d2 => ?_
        cases d2
        refine ⟨_, _, rfl, ?_⟩
        have dqJ := Dq.same sJ _ _ dqI
        have sHJ := sH.trans (sI.trans sJ)
        refine gs_noN (b := false) (gvt_or (b := false) (c := false) ((gvt_test (K := K) (gv_neD (d := .list [.str (resP d).shown, .str (resP d).shown]) ((gn_lc (K := K) (δ := fun z : Nat => PyData.int (z : Int)) (as := List.range 2) (p := fun _ => true) (f := fun _ => PyData.str (resP d).shown) (gvi_range (n := 2) (gv_int (i := 2)) (by decide)) (fun z vz Hz hz sz dz => ⟨gvt_yes, fun _ => gv_reprA (gv_Told2 (j := 8) rfl (Dq.same sz _ _ dqJ) hl) ro⟩) (fun _ _ => rfl) (by decide)).gv) (gv_lst (gva_cons (gv_var (i := 10) rfl (.str _)) (gva_cons (gv_var (i := 10) rfl (.str _)) gva_nil))) (shp_two so') (shp_two so'))).to (by rw [eqv_two]; rfl)) (fun Hy sy _ => (gvt_test (K := K) (gv_neS (gv_reprAq (i := 8) rfl (Dq.same sy _ _ dqJ) w.sh) (gv_var (i := 9) rfl (.str _)))).to (by simp))) rfl fun HK sK => ?_
        exact ⟨sHJ.trans sK, _, _, _, _, _, _, rfl⟩
      · obtain ⟨sH, x6, x7, x8, x9, x10, x11, rfl⟩ := hP
        exact ⟨DG.same sH, sH _ _ eIG, _, _, _, _, _, _, _, _, _, rfl⟩
    refine gs_range (K := K) (n := 9) (gv_int (i := 9)) (by decide) (fun _ k σ H' => Dk3 H' a c r (100000 - 1000 * i - 220 - 20 * k) ∧ H' I = some (.lst (sgL.map V.str)) ∧ ∃ (Vv : Addr) (vs : List V), H' Vv = some (.lst vs) ∧ Vv ≠ a ∧ Vv ≠ r ∧ VXs K (DkX a r) H' vs ∧ vs.length ≤ 100 + 2 * k ∧ ∃ x6 x7 x8 x9 x10 x11, σ = [some (.ref sc), some (.ref a), some (.ref I), some (.int (i : Int)), some (.str tx), some (.ref Vv), x6, x7, x8, x9, x10, x11])
      (fun Hy sy => ⟨DF.same sy, sy _ _ eIF, V1, _, sy _ _ eVF, o4.1, o4.2.1, vwF.per (Per.of sy), vl, _, _, _, _, _, _, rfl⟩) (fun Hy k σ H' sy hk' hP => ?_) (fun Hy σ H' sy hP => ?_)
    · obtain ⟨DG, eIG, Vv, vs, eVG, nVa, nVr, vwG, vlG, x6, x7, x8, x9, x10, x11, rfl⟩ := hP
      refine ⟨.ref a, rfl, .str tx, rfl, .ref I, rfl, a, c, r, I, 100000 - 1000 * i - 220 - 20 * k - 10, 230, 22, 9, tx, sgL, rfl, DG.less (by omega), eIG, sgs_ok, psm, psp, by decide, fun z hz => (pw z hz).ln, by decide, fun H6' y b6 D6 sy6 sp6 => ?_⟩
      dsimp only
      have eI6 := b6 _ _ oI.1 oI.2 eIG
      have eV6 := b6 _ _ nVa nVr eVG
      refine ⟨.ref Vv, rfl, .str y, rfl, .ref a, rfl, .str y, rfl, .ref I, rfl, a, c, r, I, 100000 - 1000 * i - 220 - 20 * (k + 1), 256, 256, 10, y, sgL, rfl, D6.less (by omega), eI6, sgs_ok, sy6, sp6, by decide, fun z hz => (split_sm sep_sp sy6 z hz).ln, Nat.le_refl _, fun H7' y2 b7' D7' sy7 sp7 => ?_⟩
      have eV7 := b7' _ _ nVa nVr eV6
      have b67 := But.trans b6 b7'
      have eI7' := b67 _ _ oI.1 oI.2 eIG
      refine ⟨by show 2 ≤ sizeLine; decide, fun B nB => ?_⟩
      have u1 := same_new (o := HO.lst [.str y, .str y2]) nB
      refine ⟨Vv, B, _, _, rfl, rfl, u1 _ _ eV7, upd_same, Nat.le_of_lt (small5 (by show vs.length + 2 ≤ _; omega)), fun V' nV' => ?_⟩
      have u2 := same_new (o := HO.lst (vs ++ [.str y, .str y2])) nV'
      have u12 := u1.trans u2
      have oV := (D7'.same u1).fresh nV'
      have pp : Per (DkX a r) H' (upd (upd H7' B (.lst [.str y, .str y2])) V' (.lst (vs ++ [.str y, .str y2]))) := (Per.but (.inl rfl) (.inr rfl) b67).trans (Per.of u12)
      refine ⟨D7'.same u12, u12 _ _ eI7', V', _, upd_same, oV.1, oV.2.1, VXs.app (vwG.per pp) (fun v hv => ?_), by rw [List.length_append]; show vs.length + 2 ≤ _; omega, _, _, _, _, _, _, rfl⟩
      rcases (show v = .str y ∨ v = .str y2 by simpa using hv) with rfl | rfl
      · exact vx_str sy6 (by decide) (by omega)
      · exact vx_str sy7 (by decide) (by omega)
    · obtain ⟨DG, eIG, Vv, vs, eVG, nVa, nVr, vwG, vlG, hσ⟩ := hP
      exact hk σ H' ⟨DG.less (by omega), eIG, Vv, vs, eVG, vwG, hσ⟩
end
end K61
namespace K61
open PySem PySem.Spec PyProof.Rows L2 Pr
/-! what the top has written -/
theorem all_mk {l : PySem.W.OpenLaw} {w : World} {K : PySem.W.Frag} {h : Heap} {mg : Str → Option Value} {fa f1 f2 f3 f4 f5 f6 f7 f8 f9 f10 f11 f12 f13 f14 f15 f16 f17 f18 f19 : Addr} (X : K.In h) (G : h.Ns mainGlobals mg) (hfa : mg "law" = some (.ref fa))
    {od1 an1 od2 an2 od3 an3 od4 an4 od5 an5 od6 an6 od7 an7 od8 an8 od9 an9 od10 an10 od11 an11 od12 an12 od13 an13 od14 an14 od15 an15 od16 an16 od17 an17 od18 an18 od19 an19 : Option Addr} {sl1 sl2 sl3 sl4 sl5 sl6 sl7 sl8 sl9 sl10 sl11 sl12 sl13 sl14 sl15 sl16 sl17 sl18 sl19 : Array (Option Value)} {oc1 kV1 dc1 pm1 cd1 ct1 oc2 kV2 dc2 pm2 cd2 ct2 oc3 kV3 dc3 pm3 cd3 ct3 oc4 kV4 dc4 pm4 cd4 ct4 oc5 kV5 dc5 pm5 cd5 ct5 oc6 kV6 dc6 pm6 cd6 ct6 oc7 kV7 dc7 pm7 cd7 ct7 oc8 kV8 dc8 pm8 cd8 ct8 oc9 kV9 dc9 pm9 cd9 ct9 oc10 kV10 dc10 pm10 cd10 ct10 oc11 kV11 dc11 pm11 cd11 ct11 oc12 kV12 dc12 pm12 cd12 ct12 oc13 kV13 dc13 pm13 cd13 ct13 oc14 kV14 dc14 pm14 cd14 ct14 oc15 kV15 dc15 pm15 cd15 ct15 oc16 kV16 dc16 pm16 cd16 ct16 oc17 kV17 dc17 pm17 cd17 ct17 oc18 kV18 dc18 pm18 cd18 ct18 oc19 kV19 dc19 pm19 cd19 ct19 : Value}
    (a1 : PySem.W.nsIn K mainGlobals "words_of" = some (some (.ref f1))) (l1 : K.lookup f1 = some ⟨oc1, od1, .func (PySem.W.fnOf "words_of" "words_of" (defArgs sWordsOf) (defBody sWordsOf) (defScope sWordsOf) .none kV1 dc1 pm1 an1 cd1 ct1), sl1⟩) (c1 : PySem.W.codeIn K cd1 "words_of" = true) (k1 : PySem.W.keepIn K (.ref f1) = true)
    (a2 : PySem.W.nsIn K mainGlobals "buttons_by_text" = some (some (.ref f2))) (l2 : K.lookup f2 = some ⟨oc2, od2, .func (PySem.W.fnOf "buttons_by_text" "buttons_by_text" (defArgs sByText) (defBody sByText) (defScope sByText) .none kV2 dc2 pm2 an2 cd2 ct2), sl2⟩) (c2 : PySem.W.codeIn K cd2 "buttons_by_text" = true) (k2 : PySem.W.keepIn K (.ref f2) = true)
    (a3 : PySem.W.nsIn K mainGlobals "is_button" = some (some (.ref f3))) (l3 : K.lookup f3 = some ⟨oc3, od3, .func (PySem.W.fnOf "is_button" "is_button" (defArgs sBtn) (defBody sBtn) (defScope sBtn) .none kV3 dc3 pm3 an3 cd3 ct3), sl3⟩) (c3 : PySem.W.codeIn K cd3 "is_button" = true) (k3 : PySem.W.keepIn K (.ref f3) = true)
    (a4 : PySem.W.nsIn K mainGlobals "is_button_tuple" = some (some (.ref f4))) (l4 : K.lookup f4 = some ⟨oc4, od4, .func (PySem.W.fnOf "is_button_tuple" "is_button_tuple" (defArgs sBtnT) (defBody sBtnT) (defScope sBtnT) .none kV4 dc4 pm4 an4 cd4 ct4), sl4⟩) (c4 : PySem.W.codeIn K cd4 "is_button_tuple" = true) (k4 : PySem.W.keepIn K (.ref f4) = true)
    (a5 : PySem.W.nsIn K mainGlobals "parse_list" = some (some (.ref f5))) (l5 : K.lookup f5 = some ⟨oc5, od5, .func (PySem.W.fnOf "parse_list" "parse_list" (defArgs sPList) (defBody sPList) (defScope sPList) .none kV5 dc5 pm5 an5 cd5 ct5), sl5⟩) (c5 : PySem.W.codeIn K cd5 "parse_list" = true) (k5 : PySem.W.keepIn K (.ref f5) = true)
    (a6 : PySem.W.nsIn K mainGlobals "parse_panel" = some (some (.ref f6))) (l6 : K.lookup f6 = some ⟨oc6, od6, .func (PySem.W.fnOf "parse_panel" "parse_panel" (defArgs sParse) (defBody sParse) (defScope sParse) .none kV6 dc6 pm6 an6 cd6 ct6), sl6⟩) (c6 : PySem.W.codeIn K cd6 "parse_panel" = true) (k6 : PySem.W.keepIn K (.ref f6) = true)
    (a7 : PySem.W.nsIn K mainGlobals "_law_draws" = some (some (.ref f7))) (l7 : K.lookup f7 = some ⟨oc7, od7, .func (PySem.W.fnOf "_law_draws" "_law_draws" (defArgs sDraws) (defBody sDraws) (defScope sDraws) .none kV7 dc7 pm7 an7 cd7 ct7), sl7⟩) (c7 : PySem.W.codeIn K cd7 "_law_draws" = true) (k7 : PySem.W.keepIn K (.ref f7) = true)
    (a8 : PySem.W.nsIn K mainGlobals "_law_next" = some (some (.ref f8))) (l8 : K.lookup f8 = some ⟨oc8, od8, .func (PySem.W.fnOf "_law_next" "_law_next" (defArgs sNext) (defBody sNext) (defScope sNext) .none kV8 dc8 pm8 an8 cd8 ct8), sl8⟩) (c8 : PySem.W.codeIn K cd8 "_law_next" = true) (k8 : PySem.W.keepIn K (.ref f8) = true)
    (a9 : PySem.W.nsIn K mainGlobals "_law_one" = some (some (.ref f9))) (l9 : K.lookup f9 = some ⟨oc9, od9, .func (PySem.W.fnOf "_law_one" "_law_one" (defArgs sOne) (defBody sOne) (defScope sOne) .none kV9 dc9 pm9 an9 cd9 ct9), sl9⟩) (c9 : PySem.W.codeIn K cd9 "_law_one" = true) (k9 : PySem.W.keepIn K (.ref f9) = true)
    (a10 : PySem.W.nsIn K mainGlobals "_law_panel" = some (some (.ref f10))) (l10 : K.lookup f10 = some ⟨oc10, od10, .func (PySem.W.fnOf "_law_panel" "_law_panel" (defArgs sPanel) (defBody sPanel) (defScope sPanel) .none kV10 dc10 pm10 an10 cd10 ct10), sl10⟩) (c10 : PySem.W.codeIn K cd10 "_law_panel" = true) (k10 : PySem.W.keepIn K (.ref f10) = true)
    (a11 : PySem.W.nsIn K mainGlobals "_law_panel_text" = some (some (.ref f11))) (l11 : K.lookup f11 = some ⟨oc11, od11, .func (PySem.W.fnOf "_law_panel_text" "_law_panel_text" (defArgs sLPanT) (defBody sLPanT) (defScope sLPanT) .none kV11 dc11 pm11 an11 cd11 ct11), sl11⟩) (c11 : PySem.W.codeIn K cd11 "_law_panel_text" = true) (k11 : PySem.W.keepIn K (.ref f11) = true)
    (a12 : PySem.W.nsIn K mainGlobals "_law_number" = some (some (.ref f12))) (l12 : K.lookup f12 = some ⟨oc12, od12, .func (PySem.W.fnOf "_law_number" "_law_number" (defArgs sNum) (defBody sNum) (defScope sNum) .none kV12 dc12 pm12 an12 cd12 ct12), sl12⟩) (c12 : PySem.W.codeIn K cd12 "_law_number" = true) (k12 : PySem.W.keepIn K (.ref f12) = true)
    (a13 : PySem.W.nsIn K mainGlobals "_law_list" = some (some (.ref f13))) (l13 : K.lookup f13 = some ⟨oc13, od13, .func (PySem.W.fnOf "_law_list" "_law_list" (defArgs sLList) (defBody sLList) (defScope sLList) .none kV13 dc13 pm13 an13 cd13 ct13), sl13⟩) (c13 : PySem.W.codeIn K cd13 "_law_list" = true) (k13 : PySem.W.keepIn K (.ref f13) = true)
    (a14 : PySem.W.nsIn K mainGlobals "_law_panel_due" = some (some (.ref f14))) (l14 : K.lookup f14 = some ⟨oc14, od14, .func (PySem.W.fnOf "_law_panel_due" "_law_panel_due" (defArgs sDue) (defBody sDue) (defScope sDue) .none kV14 dc14 pm14 an14 cd14 ct14), sl14⟩) (c14 : PySem.W.codeIn K cd14 "_law_panel_due" = true) (k14 : PySem.W.keepIn K (.ref f14) = true)
    (a15 : PySem.W.nsIn K mainGlobals "_law_bent" = some (some (.ref f15))) (l15 : K.lookup f15 = some ⟨oc15, od15, .func (PySem.W.fnOf "_law_bent" "_law_bent" (defArgs sBent) (defBody sBent) (defScope sBent) .none kV15 dc15 pm15 an15 cd15 ct15), sl15⟩) (c15 : PySem.W.codeIn K cd15 "_law_bent" = true) (k15 : PySem.W.keepIn K (.ref f15) = true)
    (a16 : PySem.W.nsIn K mainGlobals "_law_odd" = some (some (.ref f16))) (l16 : K.lookup f16 = some ⟨oc16, od16, .func (PySem.W.fnOf "_law_odd" "_law_odd" (defArgs sOdd) (defBody sOdd) (defScope sOdd) .none kV16 dc16 pm16 an16 cd16 ct16), sl16⟩) (c16 : PySem.W.codeIn K cd16 "_law_odd" = true) (k16 : PySem.W.keepIn K (.ref f16) = true)
    (a17 : PySem.W.nsIn K mainGlobals "_law_told" = some (some (.ref f17))) (l17 : K.lookup f17 = some ⟨oc17, od17, .func (PySem.W.fnOf "_law_told" "_law_told" (defArgs sTold) (defBody sTold) (defScope sTold) .none kV17 dc17 pm17 an17 cd17 ct17), sl17⟩) (c17 : PySem.W.codeIn K cd17 "_law_told" = true) (k17 : PySem.W.keepIn K (.ref f17) = true)
    (a18 : PySem.W.nsIn K mainGlobals "_law_written" = some (some (.ref f18))) (l18 : K.lookup f18 = some ⟨oc18, od18, .func (PySem.W.fnOf "_law_written" "_law_written" (defArgs sWri) (defBody sWri) (defScope sWri) .none kV18 dc18 pm18 an18 cd18 ct18), sl18⟩) (c18 : PySem.W.codeIn K cd18 "_law_written" = true) (k18 : PySem.W.keepIn K (.ref f18) = true)
    (a19 : PySem.W.nsIn K mainGlobals "law" = some (some (.ref f19))) (l19 : K.lookup f19 = some ⟨oc19, od19, .func (PySem.W.fnOf "law" "law" (defArgs sLaw) (defBody sLaw) (defScope sLaw) .none kV19 dc19 pm19 an19 cd19 ct19), sl19⟩) (c19 : PySem.W.codeIn K cd19 "law" = true) (k19 : PySem.W.keepIn K (.ref f19) = true)
    {tk_MAX_BUTTONS : Tok} (y_MAX_BUTTONS : PySem.W.nsIn K mainGlobals "MAX_BUTTONS" = some (some (.int 10 tk_MAX_BUTTONS)))
    {C CP CB CR CS fI : Addr} {nm q : Str} {Nn : Addr} {bs : List Value} {sn : List Str} {sub : List Value} {ab : Bool} {col : Option Bool} {dd : Option Addr} {q0 q1 q2 q3 q5 : Option Value} {ocI kVI dcI pmI cdI ctI : Value} {odI anI : Option Addr} {slI : Array (Option Value)}
    (uP : PySem.W.nsIn K mainGlobals "PanelError" = some (some (.ref CP)))
    (uC : PySem.W.nsIn K mainGlobals "BadText" = some (some (.ref C)))
    (uCB : PySem.W.nsIn K mainGlobals "BadPanel" = some (some (.ref CB)))
    (uCR : PySem.W.nsIn K mainGlobals "BadRow" = some (some (.ref CR)))
    (uCS : PySem.W.nsIn K mainGlobals "BadState" = some (some (.ref CS)))
    (xL : K.lookup C = some (excClassObj nm q C Nn bs [.ref CP, .type "ValueError", .type "Exception", .type "BaseException", .type "object"] true sn sub ab col dd q0 q1 q2 q3 q5 "ValueError.__new__"))
    (sa : PySem.W.findIn K (.ref C) "__setattr__" = some (some (.builtin "object.__setattr__")))
    (exC : PySem.W.subIn K (.ref C) (.type "BaseException") = some true)
    (tyC : PySem.W.typeIn K (.ref C) = some (.type "type"))
    (kC : PySem.W.keepIn K (.ref C) = true)
    (iC : PySem.W.findIn K (.ref C) "__init__" = some (some (.ref fI)))
    (tI : PySem.W.typeIn K (.ref fI) = some (.type "function"))
    (noN : PySem.W.findIn K (.ref C) "index" = some none)
    (lI : K.lookup fI = some ⟨ocI, odI, .func (PySem.W.fnOf "__init__" "BadText.__init__" (defArgs sInitT) (defBody sInitT) (defScope sInitT) .none kVI dcI pmI anI cdI ctI), slI⟩)
    (cI : PySem.W.codeIn K cdI "BadText.__init__" = true)
    (kI : PySem.W.keepIn K (.ref fI) = true)
    (hg : PySem.W.findIn K (.ref C) "__getattribute__" = some (some (.builtin "BaseException.__getattribute__")))
    (hk : PySem.W.findIn K (.ref C) "__getattr__" = some none)
    (hd : PySem.W.hasDictIn K C = true)
    (ha : PySem.W.findIn K (.ref C) "__class__" = some (some (.builtin "object.__class__")))
    (hn : PySem.W.specialIn K (.builtin "object.__class__") "__get__" = some (some (.builtin "getset_descriptor.__get__")))
    (ht : PySem.W.takesIn K (.builtin "object.__class__") = some true)
    (hm : PySem.W.mroIn K C (.type "object") = some true)
    (xP : PySem.W.subIn K (.ref CP) (.type "BaseException") = some true)
    (dP : PySem.W.hasDictIn K CP = true)
    (tP : PySem.W.typeIn K (.ref CP) = some (.type "type"))
    (sP : PySem.W.subIn K (.ref C) (.ref CP) = some true)
    (nE : PySem.W.kitAny K (.ref C) [.ref CB, .ref CR, .ref CS, .type "LookupError"] = some false)
    (z1 : PySem.W.nsIn K mainGlobals "LookupError" = some none) (z2 : PySem.W.nsIn K mainGlobals "abs" = some none) (z3 : PySem.W.nsIn K mainGlobals "bool" = some none) (z4 : PySem.W.nsIn K mainGlobals "enumerate" = some none) (z5 : PySem.W.nsIn K mainGlobals "int" = some none) (z6 : PySem.W.nsIn K mainGlobals "isinstance" = some none) (z7 : PySem.W.nsIn K mainGlobals "len" = some none) (z8 : PySem.W.nsIn K mainGlobals "range" = some none) (z9 : PySem.W.nsIn K mainGlobals "repr" = some none) (z10 : PySem.W.nsIn K mainGlobals "set" = some none) (z11 : PySem.W.nsIn K mainGlobals "sorted" = some none) (z12 : PySem.W.nsIn K mainGlobals "str" = some none) (z13 : PySem.W.nsIn K mainGlobals "tuple" = some none) :
    ∃ fd : FuncData, (∀ (s : Shared) (v : Value), BindsTo s fd ⟨[v], []⟩ [("_law_script", v)]) ∧ ∀ base : Heap, K.In base → base.Ns mainGlobals mg → FnG l.prog w K mg base 6 fa fd ["_law_script"] (spLaw K) := by
  have e := hfa.symm.trans (PySem.W.mg_of X G a19)
  cases e
  have F1 := fun_mk (st := sWordsOf) l1 c1 k1
  have F2 := fun_mk (st := sByText) l2 c2 k2
  have F3 := fun_mk (st := sBtn) l3 c3 k3
  have F4 := fun_mk (st := sBtnT) l4 c4 k4
  have F5 := fun_mk (st := sPList) l5 c5 k5
  have F6 := fun_mk (st := sParse) l6 c6 k6
  have F7 := fun_mk (st := sDraws) l7 c7 k7
  have F8 := fun_mk (st := sNext) l8 c8 k8
  have F9 := fun_mk (st := sOne) l9 c9 k9
  have F10 := fun_mk (st := sPanel) l10 c10 k10
  have F11 := fun_mk (st := sLPanT) l11 c11 k11
  have F12 := fun_mk (st := sNum) l12 c12 k12
  have F13 := fun_mk (st := sLList) l13 c13 k13
  have F14 := fun_mk (st := sDue) l14 c14 k14
  have F15 := fun_mk (st := sBent) l15 c15 k15
  have F16 := fun_mk (st := sOdd) l16 c16 k16
  have F17 := fun_mk (st := sTold) l17 c17 k17
  have F18 := fun_mk (st := sWri) l18 c18 k18
  have F19 := fun_mk (st := sLaw) l19 c19 k19
  have b1 := F1.binds (ps := ["value"]) fun _ _ _ _ _ _ us hl => match us, hl with | [_], _ => rfl
  have b2 := F2.binds (ps := ["many"]) fun _ _ _ _ _ _ us hl => match us, hl with | [_], _ => rfl
  have b3 := F3.binds (ps := ["value", "many"]) fun _ _ _ _ _ _ us hl => match us, hl with | [_, _], _ => rfl
  have b4 := F4.binds (ps := ["value", "many"]) fun _ _ _ _ _ _ us hl => match us, hl with | [_, _], _ => rfl
  have b5 := F5.binds (ps := ["word", "button", "buttons"]) fun _ _ _ _ _ _ us hl => match us, hl with | [_, _, _], _ => rfl
  have b6 := F6.binds (ps := ["value"]) fun _ _ _ _ _ _ us hl => match us, hl with | [_], _ => rfl
  have b7 := F7.binds (ps := ["_law_script"]) fun _ _ _ _ _ _ us hl => match us, hl with | [_], _ => rfl
  have b8 := F8.binds (ps := ["_law_state", "_law_many"]) fun _ _ _ _ _ _ us hl => match us, hl with | [_, _], _ => rfl
  have b9 := F9.binds (ps := ["_law_state", "_law_items"]) fun _ _ _ _ _ _ us hl => match us, hl with | [_, _], _ => rfl
  have b10 := F10.binds (ps := ["_law_state", "_law_most"]) fun _ _ _ _ _ _ us hl => match us, hl with | [_, _], _ => rfl
  have b11 := F11.binds (ps := ["_law_panel_here"]) fun _ _ _ _ _ _ us hl => match us, hl with | [_], _ => rfl
  have b12 := F12.binds (ps := ["_law_word"]) fun _ _ _ _ _ _ us hl => match us, hl with | [_], _ => rfl
  have b13 := F13.binds (ps := ["_law_word", "_law_index", "_law_many"]) fun _ _ _ _ _ _ us hl => match us, hl with | [_, _, _], _ => rfl
  have b14 := F14.binds (ps := ["_law_value"]) fun _ _ _ _ _ _ us hl => match us, hl with | [_], _ => rfl
  have b15 := F15.binds (ps := ["_law_state", "_law_text", "_law_signs"]) fun _ _ _ _ _ _ us hl => match us, hl with | [_, _, _], _ => rfl
  have b16 := F16.binds (ps := ["_law_state"]) fun _ _ _ _ _ _ us hl => match us, hl with | [_], _ => rfl
  have b17 := F17.binds (ps := ["_law_value"]) fun _ _ _ _ _ _ us hl => match us, hl with | [_], _ => rfl
  have b18 := F18.binds (ps := []) fun _ _ _ _ _ _ us hl => match us, hl with | [], _ => rfl
  have FI := fun_mk (st := sInitT) lI cI kI
  have bI := FI.binds (ps := ["self", "index"]) fun _ _ _ _ _ _ us hl => match us, hl with | [_, _], _ => rfl
  have T : ExF K mg "BadText" "index" "BadText.__init__" sInitT C fI _ := { oex := ⟨⟨nm, q, Nn, bs, _, sn, sub, ab, col, dd, q0, q1, q2, q3, q5, xL, by first | rfl | decide +kernel⟩, sa, exC, tyC, kC⟩, iC := iC, tI := tI, noN := noN, g := PySem.W.mg_of X G uC, FI := FI, bI := bI }
  have Y : TryTxt K mg C CP CB CR CS := { exc := ⟨hg, hk, exC, hd, ha, hn, ht, hm⟩, xf := ⟨hg, hk, exC, hd⟩, gP := PySem.W.mg_of X G uP, gB := PySem.W.mg_of X G uCB, gR := PySem.W.mg_of X G uCR, gS := PySem.W.mg_of X G uCS, m1 := PySem.W.exm_ref xP dP tP sP, k3 := nE }
  exact ⟨_, fun s v => .of_eq rfl, fun base _ _ => ok_law F19 F1 b1 (PySem.W.mg_of X G a1) F2 b2 (PySem.W.mg_of X G a2) F3 b3 (PySem.W.mg_of X G a3) F4 b4 (PySem.W.mg_of X G a4) F5 b5 (PySem.W.mg_of X G a5) F6 b6 (PySem.W.mg_of X G a6) F7 b7 (PySem.W.mg_of X G a7) F8 b8 (PySem.W.mg_of X G a8) F9 b9 (PySem.W.mg_of X G a9) F10 b10 (PySem.W.mg_of X G a10) F11 b11 (PySem.W.mg_of X G a11) F12 b12 (PySem.W.mg_of X G a12) F13 b13 (PySem.W.mg_of X G a13) F14 b14 (PySem.W.mg_of X G a14) F15 b15 (PySem.W.mg_of X G a15) F16 b16 (PySem.W.mg_of X G a16) F17 b17 (PySem.W.mg_of X G a17) F18 b18 (PySem.W.mg_of X G a18) (PySem.W.mg_none_of X G z1) (PySem.W.mg_none_of X G z2) (PySem.W.mg_none_of X G z3) (PySem.W.mg_none_of X G z4) (PySem.W.mg_none_of X G z5) (PySem.W.mg_none_of X G z6) (PySem.W.mg_none_of X G z7) (PySem.W.mg_none_of X G z8) (PySem.W.mg_none_of X G z9) (PySem.W.mg_none_of X G z10) (PySem.W.mg_none_of X G z11) (PySem.W.mg_none_of X G z12) (PySem.W.mg_none_of X G z13) T Y (PySem.W.mg_of X G y_MAX_BUTTONS)⟩
end K61
open PySem PySem.W PyProof.Rows
theorem PySem.Challenge.cw_pressrelease_k61_panels_parsed_holds : PySem.Challenge.rw_pressrelease_k61_panels_parsed.Holds := by
  w_on; o_law; k_head; (case hw => w_witness2)
  k_fill
  refine Pr.walkG (l := PySem.Challenge.rw_pressrelease_k61_panels_parsed) (n := 63) (k := 6) (x := "_law_script") (sp := K61.spLaw) rfl (by decide) rfl ⟨rfl, by decide, by decide⟩ (fun w h Y => PySem.W.kIn_of Y) ?F (fun _ _ a ns hl _ _ hS => ⟨a, ns, rfl, hS, hl, fun _ => rfl⟩)
  case F =>
    intro w mg fa h KX G hmg
    refine' K61.all_mk KX G hmg ?a1 ?l1 ?c1 ?k1 ?a2 ?l2 ?c2 ?k2 ?a3 ?l3 ?c3 ?k3 ?a4 ?l4 ?c4 ?k4 ?a5 ?l5 ?c5 ?k5 ?a6 ?l6 ?c6 ?k6 ?a7 ?l7 ?c7 ?k7 ?a8 ?l8 ?c8 ?k8 ?a9 ?l9 ?c9 ?k9 ?a10 ?l10 ?c10 ?k10 ?a11 ?l11 ?c11 ?k11 ?a12 ?l12 ?c12 ?k12 ?a13 ?l13 ?c13 ?k13 ?a14 ?l14 ?c14 ?k14 ?a15 ?l15 ?c15 ?k15 ?a16 ?l16 ?c16 ?k16 ?a17 ?l17 ?c17 ?k17 ?a18 ?l18 ?c18 ?k18 ?a19 ?l19 ?c19 ?k19 ?y_MAX_BUTTONS ?uP ?uC ?uCB ?uCR ?uCS ?xL ?sa ?exC ?tyC ?kC ?iC ?tI ?noN ?lI ?cI ?kI ?hg ?hk ?hd ?ha ?hn ?ht ?hm ?xP ?dP ?tP ?sP ?nE ?z1 ?z2 ?z3 ?z4 ?z5 ?z6 ?z7 ?z8 ?z9 ?z10 ?z11 ?z12 ?z13
    (case a1 => k_is); (case l1 => k_is); (case c1 => k_is); (case k1 => k_is); (case a2 => k_is); (case l2 => k_is); (case c2 => k_is); (case k2 => k_is); (case a3 => k_is); (case l3 => k_is); (case c3 => k_is); (case k3 => k_is)
    (case a4 => k_is); (case l4 => k_is); (case c4 => k_is); (case k4 => k_is); (case a5 => k_is); (case l5 => k_is); (case c5 => k_is); (case k5 => k_is); (case a6 => k_is); (case l6 => k_is); (case c6 => k_is); (case k6 => k_is)
    (case a7 => k_is); (case l7 => k_is); (case c7 => k_is); (case k7 => k_is); (case a8 => k_is); (case l8 => k_is); (case c8 => k_is); (case k8 => k_is); (case a9 => k_is); (case l9 => k_is); (case c9 => k_is); (case k9 => k_is)
    (case a10 => k_is); (case l10 => k_is); (case c10 => k_is); (case k10 => k_is); (case a11 => k_is); (case l11 => k_is); (case c11 => k_is); (case k11 => k_is); (case a12 => k_is); (case l12 => k_is); (case c12 => k_is); (case k12 => k_is)
    (case a13 => k_is); (case l13 => k_is); (case c13 => k_is); (case k13 => k_is); (case a14 => k_is); (case l14 => k_is); (case c14 => k_is); (case k14 => k_is); (case a15 => k_is); (case l15 => k_is); (case c15 => k_is); (case k15 => k_is)
    (case a16 => k_is); (case l16 => k_is); (case c16 => k_is); (case k16 => k_is); (case a17 => k_is); (case l17 => k_is); (case c17 => k_is); (case k17 => k_is); (case a18 => k_is); (case l18 => k_is); (case c18 => k_is); (case k18 => k_is)
    (case a19 => k_is); (case l19 => k_is); (case c19 => k_is); (case k19 => k_is); (case y_MAX_BUTTONS => k_is); (case uP => first | k_is | k_exc | rfl | decide +kernel); (case uC => first | k_is | k_exc | rfl | decide +kernel); (case uCB => first | k_is | k_exc | rfl | decide +kernel); (case uCR => first | k_is | k_exc | rfl | decide +kernel); (case uCS => first | k_is | k_exc | rfl | decide +kernel); (case xL => first | k_is | k_exc | rfl | decide +kernel); (case sa => first | k_is | k_exc | rfl | decide +kernel)
    (case exC => first | k_is | k_exc | rfl | decide +kernel); (case tyC => first | k_is | k_exc | rfl | decide +kernel); (case kC => first | k_is | k_exc | rfl | decide +kernel); (case iC => first | k_is | k_exc | rfl | decide +kernel); (case tI => first | k_is | k_exc | rfl | decide +kernel); (case noN => first | k_is | k_exc | rfl | decide +kernel); (case lI => first | k_is | k_exc | rfl | decide +kernel); (case cI => first | k_is | k_exc | rfl | decide +kernel); (case kI => first | k_is | k_exc | rfl | decide +kernel); (case hg => first | k_is | k_exc | rfl | decide +kernel); (case hk => first | k_is | k_exc | rfl | decide +kernel); (case hd => first | k_is | k_exc | rfl | decide +kernel)
    (case ha => first | k_is | k_exc | rfl | decide +kernel); (case hn => first | k_is | k_exc | rfl | decide +kernel); (case ht => first | k_is | k_exc | rfl | decide +kernel); (case hm => first | k_is | k_exc | rfl | decide +kernel); (case xP => first | k_is | k_exc | rfl | decide +kernel); (case dP => first | k_is | k_exc | rfl | decide +kernel); (case tP => first | k_is | k_exc | rfl | decide +kernel); (case sP => first | k_is | k_exc | rfl | decide +kernel); (case nE => first | k_is | k_exc | rfl | decide +kernel); (case z1 => k_is); (case z2 => k_is); (case z3 => k_is)
    (case z4 => k_is); (case z5 => k_is); (case z6 => k_is); (case z7 => k_is); (case z8 => k_is); (case z9 => k_is); (case z10 => k_is); (case z11 => k_is); (case z12 => k_is); (case z13 => k_is)
