import PyProof.Rows.All
import Wide.All
import OpenK.AllK
import Wide.FinOn
import HandS.ForMost
import HandS.TupMul
import HandS.TupAny
import HandS.SetFor
import HandS.Walk
import HandS.EndBits
import KE.GoesEnum
import PyProof.ReprRoads
import HandS.IsInst
import HandS.Strs
import HandS.Conv
import KE.KExcIs
import HandS.Exc
import HandS.ExcIs
import HandS.ExcInit
import HandS.ExcField
import HandS.ExcOwn
import HandS.WordsExc
import HandS.Star
import PySem.Challenge.RW_pressrelease_k03_rows_run
set_option Elab.async false
set_option linter.all false
set_option maxRecDepth 100000
set_option maxHeartbeats 4000000
/-! A layer for laws that ask repr: a def's promise that also knows that no repr is under way. -/
namespace Pr
open PySem PySem.Spec PyProof.Rows L2

/-! ### promises of defs that may ask repr -/
structure FnG (P : Program) (w : World) (K : PySem.W.Frag) (mg : Str → Option Value) (base : Heap) (k : Nat) (f : Addr) (fd : FuncData) (ps : List Str) (sp : Sp) : Prop where
  len : ∀ vs H Q E, sp vs H Q E → vs.length = ps.length
  go : ∀ (A : Around) (outer : List Env) (s : Shared) (H : Hp) (args : Args) (us : List Value) (vs : List V) (Q : VK) (E : XK), A.guards = some [] → Room k A →
    Env0 P w K mg base A outer s H → BindsTo s fd args (ps.zip us) → Vals vs us → sp vs H Q E →
    codeAny (model P w) A (.call (.ref f) args) (CR CX0 outer P w H s Q E) s

section
variable {P : Program} {w : World} {K : PySem.W.Frag} {mg : Str → Option Value} {base : Heap}
theorem FnG.of {k : Nat} {f : Addr} {fd : FuncData} {ps : List Str} {sp : Sp} (F : FnOk P w K mg base CX0 k f fd ps sp) : FnG P w K mg base k f fd ps sp :=
  ⟨F.len, fun A outer s H args us vs Q E _ hr => F.run A outer s H args us vs Q E hr⟩

/-- a def by its body, where no repr is under way -/
theorem okG {x qual : Str} {st : Stmt} {f : Addr} {fd : FuncData} {N ps : List Str} {k : Nat} {sp : Sp} (F : Fun K x qual st f fd) (S : FnScope N ps (defScope st))
    (len : ∀ vs H Q E, sp vs H Q E → vs.length = ps.length)
    (body : ∀ (cdv : Value) (A : Around) (outer : List Env) (s : Shared) (H : Hp) (vs : List V) (Q : VK) (E : XK), A.guards = some [] →
      Room k (A.deeper (envOfC qual (defScope st) s.heap.objs.size f cdv)) → sp vs H Q E →
      ∃ t, PSs (cxOf CX0 P w K mg base N qual (defScope st) f cdv A outer s H E).nox (defBody st) t ∧ t { nx := fun _ H' => Q .non H', rt := Q } (start N vs) H) :
    FnG P w K mg base (k + 1) f fd ps sp := by
  obtain ⟨oc, od, kV, doc, pm, an, cdv, ct, osl, rfl, lk, hcd⟩ := F.ex
  refine ⟨len, fun A outer s H args us vs Q E hg hr e0 hb r hsp => ?_⟩
  have hin : K.In s.heap := e0.mod.kin.keeps fun b o e => (e0.bs b o e).1
  have hlm : s.heap.NoLimit := e0.mod.nolimit.keeps fun b o e => (e0.bs b o e).1
  refine codeAny_call_function hr.depth (hin _ _ lk) rfl S.co S.gen rfl (PySem.W.codeRec_of hin hcd) (hb _ _ _ _ ?_)
  refine wpAny_newFunctionEnv_cells S.kind (fun ⟨n, v⟩ hy => ?_) fun env he s1 x => ?_
  · rcases S.par n (List.of_mem_zip hy).1 with q | q
    · exact .inl q
    · exact .inr ⟨q, PySem.W.cellsFrom_some _ _ _ (.inl q)⟩
  · subst he
    refine ⟨hlm.keeps x.toInCall.keep, codeAny_func ?_⟩
    obtain ⟨t, ht, hq⟩ := body cdv A outer s H vs Q E hg (hr.deeper _) hsp
    have I := inv_start (CX := CX0) (E := E) S hr.hd e0 (len _ _ _ _ hsp) r x
    refine wpAny_mono (ht.nox.run [] s1 (start N vs) H _ I hq) (fun fl s' hs => ?_) fun e s' hs => hs
    cases fl with
    | ret u => obtain ⟨v, σ', H', J, rv, q⟩ := hs; exact ⟨v, H', J.os, J.bare, J.base, J.hok, rv, q⟩
    | next => obtain ⟨σ', H', J, q⟩ := hs; exact ⟨V.non, H', J.os, J.bare, J.base, J.hok, rfl, q⟩
    | brk => obtain ⟨_, _, _, q⟩ := hs; exact q.elim
    | cont => obtain ⟨_, _, _, q⟩ := hs; exact q.elim
end

section
variable {X : Cx} {k : Nat} {f : Addr} {fd : FuncData} {ps : List Str} {sp : Sp} {x : Str} {p pos : Pos} {e : Expr} {es : List Expr} {t : TA}
/-- f(e, ..) of such a def -/
theorem pe_callG (F : FnG X.prog X.w X.K X.mg X.base k f fd ps sp) (gd : X.A.guards = some []) (hr : Room k X.A) (hg : Gl X x) (hm : X.mg x = some (.ref f)) (hk : PySem.W.keepIn X.K (.ref f) = true) (hb : Binds X.K fd ps [])
    (ha : PA X (e :: es) t) (hdb : (x == ("__debug__" : Str)) = false := by decide) (he : starEach (e :: es) X.env = (false, eval e X.env) :: starEach es X.env := by rfl)
    (hpl : (backTo pos (starEach es X.env)).any (·.1) = false := by rfl) : PE X (.Call (.Name x p) (e :: es) [] pos) (tCall sp [] E0 t) := by
  refine ⟨fun pins s σ H Q I h => wpAny_Call_Name_kw (ld_glob I hg hm ?_ hdb)⟩
  refine PySem.W.callWith_K (h₀ := X.base) I.ok.mod.kin hk (thn (ha.run pos pins s σ H _ I h) fun us s1 ⟨vs, H1, I1, r, q⟩ => ⟨I1.kIn, ?_⟩) he hpl
  have q1 : sp vs H1 Q E0 := by
    have q0 : sp (vs ++ []) H1 Q E0 := q
    rwa [List.append_nil] at q0
  have hl : us.length = ps.length := by rw [← r.length]; exact F.len _ _ _ _ q1
  have hb1 : BindsTo s1 fd ⟨us, []⟩ (ps.zip us) := by
    have := hb s1 us I1.kIn (by rw [List.append_nil]; exact hl)
    rwa [List.append_nil] at this
  refine wpAny_call (codeAny_mono (F.go X.A X.stack s1 H1 ⟨us, []⟩ us vs Q E0 gd hr I1.env0 hb1 r q1) fun r' s' hq => ?_)
  cases r' with
  | error e' => exact hq.elim
  | ok fl =>
    cases fl with
    | ret u => exact I1.after hq
    | next => exact hq.elim
    | brk => exact hq.elim
    | cont => exact hq.elim
end

/-! ### repr of data that holds no dict -/
def rRepr (K : PySem.W.Frag) : List V → Hp → VK → Prop := fun xs H Q => ∃ (a : Addr) (d : PyData), xs = [.ref a] ∧ Dp K H (.ref a) d ∧ d.showable = true ∧ d.hasDict = false ∧ d.depth ≤ 60 ∧ d.shown.length ≤ sizeLine ∧ Q (.str d.shown) H
theorem call_repr {X : Cx} {k : Nat} (gd : X.A.guards = some []) (hr : Room k X.A) : CallR X (.builtin "repr") (rRepr X.K) := by
  intro pins s σ H xs us Q I rv h
  obtain ⟨a, d, rfl, hd, hs, hn, hdep, hz, q⟩ := h
  obtain ⟨u, rfl, rx⟩ := vals1 rv
  cases rx
  obtain ⟨as, r⟩ := Dp.reads I d _ _ hd rfl
  exact repr_of_reads' r hs (PyData.noDict_hsm hn) gd (by have := hr.un; omega) (fun _ _ e => e) (fun h' t tk hk => ⟨.str d.shown, H, I.kept hk, ⟨t, rfl⟩, q⟩) hz

/-! ### the law's own call -/
theorem lawG {P : Program} {w : World} {K : PySem.W.Frag} {mg mb : Str → Option Value} {k : Nat} {fa a : Addr} {fd : FuncData} {x : Str} {sp : Sp} {s1 : Shared} {vs : List Value} {ns : List Int}
    (kin : K.In s1.heap) (nsg : s1.heap.Ns mainGlobals mg) (nsb : s1.heap.Ns builtinsNs mb) (bb : ∀ y : Str, y ≠ "__name__" → mb y = bootBuiltins y) (lim : s1.heap.NoLimit) (g0 : s1.gens = #[])
    (la : s1.heap.get? a = some { cls := .type "list", data := .seq vs.toArray }) (hints : IntsAre vs ns) (few : ns.length ≤ sizeLine) (rm : Room k callerA)
    (F : ∀ base : Heap, K.In base → base.Ns mainGlobals mg → FnG P w K mg base k fa fd [x] sp) (bd : ∀ (s : Shared) (u : Value), BindsTo s fd ⟨[u], []⟩ [(x, u)])
    (wish : ∀ H : Hp, Only H → SqL K H a (ns.map V.int) → sp [.ref a] H (fun v _ => v = .bl true) E0) :
    codeAny (model P w) callerA (.call (.ref fa) ⟨[.ref a], []⟩) (fun r s' => r = .ok (.ret (.bool true)) ∧ OldK s1.heap s'.heap ∧ s'.os = s1.os ∧ AllBare s'.gens) s1 := by
  have rv := vals_ints hints
  have lv := hints.length
  have main : ∀ H : Hp, Only H → SqL K H a (ns.map V.int) → HOk P w H s1.heap → (∀ b, H b ≠ none → b = a) → (H a ≠ none → K.lookup a = none) →
      codeAny (model P w) callerA (.call (.ref fa) ⟨[.ref a], []⟩) (fun r s' => r = .ok (.ret (.bool true)) ∧ OldK s1.heap s'.heap ∧ s'.os = s1.os ∧ AllBare s'.gens) s1 := by
    intro H hO hS hok hA hK
    have out : ∀ {b : Addr} {o : Obj} {es : Array DictEntry} {ep : Nat}, s1.heap.get? b = some o → o.data = .dict es ep → H b = none := fun {b o es ep} e d => by
      cases q : H b with
      | none => rfl
      | some u =>
        obtain rfl : b = a := hA b (by rw [q]; simp)
        rw [la] at e; cases e
        exact nomatch (show Data.seq vs.toArray _ = Data.dict es ep from d)
    have nsH : ∀ {b : Addr} {m : Str → Option Value}, s1.heap.Ns b m → (hidT s1.heap H).Ns b m := fun {b m} ⟨o, es, ep, e, d, r⟩ => ⟨o, es, ep, hidT_get e (out e d), d, r⟩
    have kinH : K.In (hidT s1.heap H) := fun b o e => hidT_get (kin b o e) (by
      cases q : H b with
      | none => rfl
      | some u =>
        obtain rfl : b = a := hA b (by rw [q]; simp)
        rw [hK (by rw [q]; simp)] at e; cases e)
    have md : Mod K mg (hidT s1.heap H) := ⟨kinH, nsH nsg, ⟨mb, nsH nsb, bb⟩, let ⟨mc, h1, h2⟩ := lim; ⟨mc, nsH h1, h2⟩⟩
    have e0 : Env0 P w K mg (hidT s1.heap H) callerA [] s1 H :=
      ⟨rfl, md, fun b o e => of_hidT e, Nat.le_of_eq (hidT_size _ _), trivial, fun b hb => absurd (show b ∈ ([] : List Addr) from hb) (by simp), hok, .of_eq g0⟩
    refine codeAny_mono ((F _ kinH (nsH nsg)).go callerA [] s1 H ⟨[.ref a], []⟩ [.ref a] [.ref a] _ _ rfl rm e0 (bd s1 (.ref a)) (.cons rfl .nil) (wish H hO hS)) fun r s' h => ?_
    cases r with
    | error e => exact h.elim
    | ok fl =>
      cases fl with
      | next => exact h.elim
      | brk => exact h.elim
      | cont => exact h.elim
      | ret u =>
        obtain ⟨v, H', os, bare, un, hok', r', q⟩ := h
        obtain rfl : v = .bl true := q
        obtain rfl : u = Value.bool true := r'
        refine ⟨rfl, OldK.of_keep fun b o e => ?_, os, bare⟩
        rcases hO b with z | ⟨ob, xs, z⟩
        · exact un.keep b o e z (fun y => absurd (show b ∈ ([] : List Addr) from y) (by simp)) (by simp)
        · have e1 := (hok b _ z).1
          rw [e] at e1; cases e1
          exact (hok' b _ (un.frzs b o _ z)).1
  cases hk : K.lookup a with
  | some o =>
    have e := kin a o hk
    rw [la] at e
    cases e
    exact main (fun _ => none) (fun _ => .inl rfl) (.inr ⟨_, vs.toArray, _, hk, rfl, rfl, rfl, by rw [List.size_toArray, lv]; exact few, by simpa using rv⟩)
      (fun b u z => nomatch (show (none : Option HO) = some u from z)) (fun b z => absurd rfl z) fun z => absurd rfl z
  | none =>
    refine main (upd (fun _ => none) a (.frz { cls := .type "list", data := .seq vs.toArray } (.lst (ns.map V.int)))) (fun b => ?_) (.inl (.inr ⟨_, upd_same⟩)) (fun b u z => ?_) (fun b z => ?_) fun _ => hk
    · by_cases hb : b = a
      · subst hb; exact .inr ⟨_, _, upd_same⟩
      · exact .inl (upd_ne hb)
    · by_cases hb : b = a
      · subst hb
        rw [upd_same] at z
        cases z
        exact ⟨la, by rw [List.length_map]; exact few, vs, _, rv, la⟩
      · rw [upd_ne hb] at z; cases z
    · by_cases hb : b = a
      · exact hb
      · exact absurd (upd_ne hb) z

/-- the goal that k_head leaves, from the law's promise -/
theorem walkG {l : PySem.W.OpenLaw} {n k : Nat} {q : Program} {loose : List Str} {XP : (Str → Option Value) → Heap → Prop} {YP : World → Heap → Prop} {d : DefRec} {K : Params → PySem.W.Frag} {sp : PySem.W.Frag → Sp} {x : Str}
    (hn : l.most = some n) (hn2 : n ≤ sizeLine) (hdf : d.params.defaults = []) (hr : Room k callerA) (hY : ∀ (w : World) (h : Heap), YP w h → (K w.params).In h)
    (F : ∀ (w : World) (mg : Str → Option Value) (fa : Addr) (h : Heap), (K w.params).In h → h.Ns mainGlobals mg → mg d.name = some (.ref fa) →
      ∃ fd : FuncData, (∀ (s : Shared) (u : Value), BindsTo s fd ⟨[u], []⟩ [(x, u)]) ∧ ∀ base : Heap, (K w.params).In base → base.Ns mainGlobals mg → FnG l.prog w (K w.params) mg base k fa fd [x] (sp (K w.params)))
    (hsp : ∀ (K : PySem.W.Frag) (H : Hp) (a : Addr) (ns : List Int), ns.length ≤ n → (∀ z ∈ ns, Builtin.Int.intBits z ≤ 1048576) → Only H → SqL K H a (ns.map V.int) → sp K [.ref a] H (fun v _ => v = .bl true) E0) :
    PySem.W.WalkO q loose XP YP l.row.toRowW d [] (fun f vs => PySem.call f vs) := by
  refine Att.attach_callB hn hdf fun w s0 s1 mg mb fa o pm cd doc a vs ns G Y ho hd hcd hmg hobj hints hlen hbits hg => ?_
  obtain ⟨fd, hb, hF⟩ := F w mg fa _ (hY w _ Y) G.T.g hmg
  exact lawG (hY w _ Y) G.T.g G.T.b G.T.builtins G.T.nolimit hg hobj hints (Nat.le_trans hlen hn2) hr hF hb fun H hO hS => hsp (K w.params) H a ns hlen hbits hO hS
end Pr
namespace Pr
open PySem PySem.Spec PyProof.Rows L2

/-- a tuple of which it is known that it has no attributes of its own -/
def FT (H : Hp) (a : Addr) (xs : List V) : Prop := ∃ o : Obj, H a = some (.frz o (.tup xs)) ∧ o.dict = none
theorem FT.sq {K : PySem.W.Frag} {H : Hp} {a : Addr} {xs : List V} (h : FT H a xs) : SqT K H a xs := let ⟨o, e, _⟩ := h; .inl (.inr ⟨o, e⟩)
theorem FT.same {H H' : Hp} {a : Addr} {xs : List V} (e : Same H H') (h : FT H a xs) : FT H' a xs := let ⟨o, q, z⟩ := h; ⟨o, e _ _ q, z⟩
theorem same_sqT {K : PySem.W.Frag} {H H' : Hp} {a : Addr} {xs : List V} (e : Same H H') (h : SqT K H a xs) : SqT K H' a xs := by
  rcases h with (h | ⟨o, h⟩) | h
  · exact .inl (.inl (e _ _ h))
  · exact .inl (.inr ⟨o, e _ _ h⟩)
  · exact .inr h

section
variable {X : Cx}
/-! ### tuple(list), the tuple known -/
def rTupF (K : PySem.W.Frag) : List V → Hp → VK → Prop := fun xs H Q => ∃ p ys, xs = [.ref p] ∧ SqL K H p ys ∧ ∀ l o, H l = none → o.dict = none → Q (.ref l) (upd H l (.frz o (.tup ys)))
theorem call_tupF : CallR X (.type "tuple") (rTupF X.K) := by
  intro pins s σ H xs us Q I r h
  obtain ⟨p, ys, rfl, hq, q⟩ := h
  obtain ⟨u, rfl, rx⟩ := vals1 r
  cases rx
  obtain ⟨its, r', pl, hz⟩ := I.list hq
  have hlen := r'.length
  refine call_tuple_list pl.isList (fun h' kp => ?_) (by simp only [List.size_toArray] <;> omega)
  have I1 : Inv X pins σ H { s with heap := h' } := I.kept (t' := s.toks) kp
  have I2 := I1.laid (t' := s.toks) (h' := h'.push { cls := .type "tuple", data := .seq its.toArray }) (a := h'.objs.size)
    (o := .frz { cls := .type "tuple", data := .seq its.toArray } (.tup ys)) (fun b o e => Heap.get?_push_of_some _ e) (Nat.le_refl _) ⟨Heap.get?_push_size _ rfl, hz, its, r', IsTup.new _ _⟩
  exact ⟨.ref h'.objs.size, _, I2, rfl, q _ _ (I1.hok.fresh (Nat.le_refl _)) rfl⟩

/-! ### t.count(k) -/
def rCntT (K : PySem.W.Frag) : V → List V → Hp → VK → Prop := fun x xs H Q => ∃ (p : Addr) (ns : List Int) (k : Int), x = .ref p ∧ xs = [.int k] ∧ SqT K H p (ns.map V.int) ∧ Q (.int (ns.count k : Nat)) H
theorem mt_tcount : MtR X "tuple.count" (rCntT X.K) := by
  intro pins s σ H x xs v us Q I rx rxs h
  obtain ⟨p, ns, k, rfl, rfl, hs, q⟩ := h
  cases rx
  obtain ⟨u, rfl, t, rfl⟩ := rxs.one
  obtain ⟨its, rv, ⟨⟨cls, dd, data, sl⟩, ho, hc, n, hd⟩, hlen⟩ := I.tuple hs
  simp only at hc hd
  subst hc hd
  have hi := ints_of_vals rv
  refine call_meets PySem.F.slot_tuple_count ⟨_, ho, rfl⟩ PySem.F.entry_tuple_count (PySem.F.args_tuple_count_2 _ _)
    (SeqAt.tuple_countAt p its.toArray n dd sl (.int k t) (eqk k)) ⟨ho, fun y hy => (eqk_gives hi y (by simpa using hy)).at _ _, ?_⟩
  have ec : its.toArray.toList.countP (eqk k) = ns.count k := eqk_count hi
  rw [ec]
  exact ⟨.int (ns.count k : Nat), H, I.tok _, ⟨s.toks, rfl⟩, q⟩

/-- o.m(e, ..), o a tuple that is known -/
def tTM (r : V → List V → Hp → VK → Prop) (to : TE) (t : TA) : TE := fun σ H Q => to σ H fun x H1 => (∃ p xs, x = .ref p ∧ FT H1 p xs) ∧ t σ H1 fun vs H2 => r x vs H2 Q
theorem pe_tm {name : Str} {id : String} {r : V → List V → Hp → VK → Prop} {o e : Expr} {es : List Expr} {apos cpos : Pos} {to : TE} {t : TA} (slot : Slot "tuple" name id) (hty : typeOf (.builtin id) = pure (.type "method_descriptor")) (hm : MtR X id r) (ho : PE X o to) (ha : PA X (e :: es) t)
    (hbase : attributeBase o name X.env (eval o X.env) = eval o X.env := by rfl)
    (hfew : ((backTo cpos (starEach (e :: es) X.env)).all (fun x => !x.1) && (backToKw cpos (keywordEach [] X.env)).all (fun x => x.1.isSome) && decide ((e :: es).length + ([] : List Keyword).length + (if ([] : List Keyword).isEmpty then 0 else 1) < 30)) = true := by rfl)
    (hline : (apos.endLine == cpos.line) = true := by rfl) (hs : starEach (e :: es) X.env = (false, eval e X.env) :: starEach es X.env := by rfl)
    (hplain : (backTo cpos (starEach es X.env)).any (·.1) = false := by rfl) : PE X (.Call (.Attribute o name apos) (e :: es) [] cpos) (tTM r to t) := by
  refine ⟨fun pins s σ H Q I h => wpAny_Call_method_late hbase hfew hline rfl (thn (ho.run pins s σ H _ I h) fun v s1 ⟨x, H1, I1, r1, ⟨p, xs, ex, ob, hp, hdn⟩, q1⟩ => ?_)⟩
  subst ex
  cases r1
  obtain ⟨g1, _, its, _, ⟨o2, g2, hc, _⟩⟩ := I1.hok p _ hp
  rw [g1] at g2
  cases g2
  refine ⟨"tuple", id, PySem.F.plainAttrs_tuple, slot, hty, ⟨ob, g1, hc⟩, fun a e => by cases e; exact ⟨ob, g1, hdn⟩, ?_⟩
  have hA := ha.run cpos pins s1 σ H1 _ I1 q1
  rw [hs] at hA ⊢
  refine Calls.callWith_builtin (by show (false || (backTo cpos (starEach es X.env)).any (·.1)) = false; rw [hplain] <;> rfl) (Calls.evalArgs_plain ?_)
  exact thn hA fun us s2 ⟨vs, H2, I2, r2, q2⟩ => hm pins s2 σ H2 (.ref p) vs (.ref p) us Q I2 rfl r2 q2
end

/-! ### (x,) * 0 and (x,) * 1 -/
theorem tup_mul0 (l : Addr) (y : Value) (n : Nat) (dd : Option Addr) (sl : Array (Option Value)) (u : Tok) :
    Meets (Builtin.«tuple.__mul__» ⟨[.ref l, .int 0 u], []⟩) (fun _ R s => s.heap.get? l = some { cls := .type "tuple", dict := dd, data := .seq #[y] n, slots := sl } ∧
      R (.ok (.ret (Value.ref s.heap.objs.size))) { s with heap := s.heap.push { cls := Value.type "tuple", data := Data.seq #[] }, toks := s.toks }) :=
  .of_wp fun prog w A R s h => by
    obtain ⟨hp, g, d, tk, os⟩ := s
    obtain ⟨hl, h⟩ := h
    have f1 := AutoSeq1.idx_int
    wp_walk using AutoSeq1.wpAny_loadPart' hl
    exact ⟨_, rfl, h⟩
theorem tup_mul1 (l : Addr) (y : Value) (n : Nat) (dd : Option Addr) (sl : Array (Option Value)) (u : Tok) :
    Meets (Builtin.«tuple.__mul__» ⟨[.ref l, .int 1 u], []⟩) (fun _ R s => s.heap.get? l = some { cls := .type "tuple", dict := dd, data := .seq #[y] n, slots := sl } ∧ R (.ok (.ret (.ref l))) s) :=
  .of_wp fun prog w A R s h => by
    obtain ⟨hp, g, d, tk, os⟩ := s
    obtain ⟨hl, h⟩ := h
    have f1 := AutoSeq1.idx_int
    wp_walk using AutoSeq1.wpAny_loadPart' hl
    exact ⟨_, rfl, h⟩
section
variable {X : Cx}
def rRep1 (K : PySem.W.Frag) : R2 := fun x y H Q => ∃ l v, x = .ref l ∧ SqT K H l [v] ∧ ((y = .int 1 ∧ Q (.ref l) H) ∨ (y = .int 0 ∧ ∀ p, H p = none → Q (.ref p) (upd H p (.tup []))))
theorem op_rep1 : OpR X (binaryOp .Mult) (rRep1 X.K) := by
  intro pins s σ H x y v u Q I rx ry h
  obtain ⟨l, z, rfl, hT, h⟩ := h
  cases rx
  obtain ⟨its, r, ⟨⟨cls, dd, data, sl⟩, ho, hc, n, hd⟩, hs⟩ := I.tuple hT
  simp only at hc hd
  subst hc hd
  obtain ⟨a, rfl, ra⟩ := vals1 r
  rcases h with ⟨rfl, q⟩ | ⟨rfl, q⟩
  · obtain ⟨t, rfl⟩ := ry
    refine wpAny_binaryOp_repeat_ref (T := "tuple") (U := "int") (by decide) ⟨_, ho, rfl⟩ (fun s' => typeIs_int s' 1 t) noFill_tuple_mul F.fills_int_mul F.slot_int_rmul repeat_tuple F.slot_int_index.lookup
      (call_meets F.slot_int_rmul (typeIs_int s 1 t) F.entry_int_rmul (F.args_int_rmul_2 _ _) (int_rmul_tuple 1 t l #[a] n dd sl)
        ⟨ho, rfl, ⟨_, ho, rfl⟩, call_meets F.slot_tuple_mul ⟨_, ho, rfl⟩ F.entry_tuple_mul (F.args_tuple_mul_2 _ _) (tup_mul1 l a n dd sl t) ⟨ho, ?_⟩⟩)
    exact ⟨.ref l, H, I, rfl, q⟩
  · obtain ⟨t, rfl⟩ := ry
    refine wpAny_binaryOp_repeat_ref (T := "tuple") (U := "int") (by decide) ⟨_, ho, rfl⟩ (fun s' => typeIs_int s' 0 t) noFill_tuple_mul F.fills_int_mul F.slot_int_rmul repeat_tuple F.slot_int_index.lookup
      (call_meets F.slot_int_rmul (typeIs_int s 0 t) F.entry_int_rmul (F.args_int_rmul_2 _ _) (int_rmul_tuple 0 t l #[a] n dd sl)
        ⟨ho, rfl, ⟨_, ho, rfl⟩, call_meets F.slot_tuple_mul ⟨_, ho, rfl⟩ F.entry_tuple_mul (F.args_tuple_mul_2 _ _) (tup_mul0 l a n dd sl t) ⟨ho, ?_⟩⟩)
    refine ⟨.ref s.heap.objs.size, _, I.laid (t' := s.toks) (o := .tup []) (fun b ob q => Heap.get?_push_of_some _ q) (Nat.le_refl _) ?_, rfl, q _ (I.hok.fresh (Nat.le_refl _))⟩
    exact ⟨Nat.zero_le _, [], .nil, IsTup.new _ _⟩
end

/-! ### enumerate(tuple) -/
theorem enum_newT (l : Addr) (items : Array Value) (n : Nat) (dct : Option Addr) (sl : Array (Option Value)) :
    Meets (Builtin.«enumerate.__new__» ⟨[.type "enumerate", .ref l], []⟩) (fun _ R s => s.heap.get? l = some { cls := .type "tuple", dict := dct, data := .seq items n, slots := sl } ∧
      R (.ok (.ret (.ref (s.heap.push { cls := .type "tuple_iterator", data := .fields #[.ref l, .int 0 0] }).objs.size)))
        { s with heap := (s.heap.push { cls := .type "tuple_iterator", data := .fields #[.ref l, .int 0 0] }).push { cls := .type "enumerate", data := .fields #[.none, .bool false, .ref s.heap.objs.size, rawInt 0, .none, .none] } }) :=
  .of_wp fun prog w A R s h => by
    obtain ⟨hp, g, d, tk, os⟩ := s; obtain ⟨hl, h⟩ := h
    have hsub := sub_enumerate
    have hL : Heap.IsTuple (Shared.heap ⟨hp, g, d, tk, os⟩) l items := ⟨_, hl, rfl, n, rfl⟩
    wp_walk using AutoSeq1.wpAny_loadPart' hl
    refine wpAny_stack_any fun st => wpAny_pure ?_
    split
    · rename_i c _ _ _ _ _
      cases (c == Value.type "enumerate") <;> (wp_walk using AutoSeq1.wpAny_loadPart' hl, wpAny_pyIter_tuple hL; exact ⟨_, rfl, h⟩)
    · wp_walk using AutoSeq1.wpAny_loadPart' hl, wpAny_pyIter_tuple hL
      exact ⟨_, rfl, h⟩
theorem call_enumT {prog : Program} {w : World} {A : Around} {E : Value → Shared → Prop} {s : Shared} {l : Addr} {items : Array Value} {Q : Value → Shared → Prop} (hL : s.heap.IsTuple l items)
    (h : ∀ h', IsEnum h' (s.heap.objs.size + 1) s.heap.objs.size 0 .none → h'.IsTupleIter s.heap.objs.size l 0 → h'.objs.size = s.heap.objs.size + 2 →
      (∀ b o, s.heap.get? b = some o → h'.get? b = some o) → Q (.ref (s.heap.objs.size + 1)) { s with heap := h' }) :
    wpAny (model prog w) A (call (.type "enumerate") [.ref l]) Q E s := by
  obtain ⟨⟨c, dct, dt, sl⟩, hl, hc, n, hd⟩ := hL
  simp only at hc hd
  subst hc hd
  refine callType_new F.called_enumerate (by decide) (F.typeCall_enumerate_1 _) (F.newCall_enumerate_1 _) (fun obj => F.args_object_init_2 obj _) F.entry_enumerate_new (enum_newT l items n dct sl) ⟨hl, ?_⟩
  generalize ho : ({ cls := .type "tuple_iterator", data := .fields #[.ref l, .int 0 0] } : Obj) = o1
  have f1 : o1.isFreed = false := by rw [← ho]; rfl
  generalize hp : ({ cls := .type "enumerate", data := .fields #[.none, .bool false, .ref s.heap.objs.size, rawInt 0, .none, .none] } : Obj) = o2
  have f2 : o2.isFreed = false := by rw [← hp]; rfl
  have hz : (s.heap.push o1).objs.size = s.heap.objs.size + 1 := Heap.size_push ..
  have hg := Heap.get?_push_size (s.heap.push o1) (o := o2) f2
  show _ ∧ _
  rw [hz] at hg ⊢
  have he : IsEnum ((s.heap.push o1).push o2) (s.heap.objs.size + 1) s.heap.objs.size 0 .none := by rw [hp.symm] at hg ⊢; exact hg
  refine ⟨⟨_, he, rfl⟩, h _ he ⟨_, Heap.get?_push_of_some _ (Heap.get?_push_size _ f1), by rw [← ho], by rw [← ho]; rfl⟩ (by rw [Heap.size_push, hz]) fun b o x => Heap.get?_push_of_some _ (Heap.get?_push_of_some _ x)⟩
/-- the tuple at a, each item in a new pair -/
def Itet (K : PySem.W.Frag) (a : Addr) : It :=
  ⟨fun i H => ∃ (xs : List V) (x : V), SqT K H a xs ∧ xs[i]? = some x, fun i H v H' => ∃ T x, v = .ref T ∧ H T = none ∧ H' = upd H T (.tup [.int (i : Nat), x]) ∧ ∀ xs, SqT K H a xs → xs[i]? = some x,
    fun i H => ∃ xs : List V, SqT K H a xs ∧ xs.length ≤ i⟩
theorem turn_enumT {P : Program} {w : World} {K : PySem.W.Frag} {elts : List Expr} {kk : Nat} {tpos : Pos} (a e it : Addr) :
    Turn P w K (.Tuple elts kk tpos) (Itet K a) [e, it] e (fun i h => (∃ old, IsEnum h e it ((i : Nat) : Int) old) ∧ h.IsTupleIter it a i ∧ e ≠ it) where
  mem := by simp
  obj := fun i h st b hb => by
    obtain ⟨⟨old, he⟩, ⟨o, ho, hc, hd⟩, _⟩ := st
    rcases (show b = e ∨ b = it by simpa using hb) with rfl | rfl
    · exact ⟨_, he, fun v q => nomatch q⟩
    · exact ⟨o, ho, fun v q => by rw [hd] at q; cases q⟩
  keep := fun i h h' st k => let ⟨⟨old, he⟩, hi, hne⟩ := st; ⟨⟨old, k e (by simp) _ he⟩, hi.at fun o q => k it (by simp) o q, hne⟩
  item := by
    intro X hP hw hK hc i pins s σ H E I hf st hg
    subst hP hw hK
    obtain ⟨⟨old, he⟩, hit, hne⟩ := st
    obtain ⟨xs, x, hq, hx⟩ := hg
    obtain ⟨its, rv, pt, hz⟩ := I.tuple hq
    have hT : s.heap.IsTuple a its.toArray := pt
    obtain ⟨u, hu, ru⟩ := rv.get hx
    have hel : e < s.heap.objs.size := Heap.lt_size he
    have hil : it < s.heap.objs.size := by obtain ⟨_, q, _⟩ := hit; exact Heap.lt_size q
    have nai : a ≠ it := fun z => by
      subst z
      obtain ⟨o1, q1, c1, _⟩ := hit
      obtain ⟨o2, q2, c2, _⟩ := hT
      rw [q1] at q2; cases q2
      rw [c1] at c2; exact absurd c2 (by decide)
    have nea : e ≠ a := fun z => by
      subst z
      obtain ⟨o2, q2, c2, _⟩ := hT
      have he' : s.heap.get? e = _ := he
      rw [he'] at q2; cases q2
      exact absurd (show Value.type "enumerate" = Value.type "tuple" from c2) (by decide)
    have hi : i < its.toArray.size := by
      have := (List.getElem?_eq_some_iff.mp hu).1
      simpa using this
    refine wpAny_pyNext_enum_itemD (Draws.tuple (A := X.A.in1) (I.ok.hd hc) it a nai its.toArray) he ⟨hit, hT⟩ hi hne (by simp [hne, nea]) fun y h' tk hy ho hit' hT' hsz hk => ?_
    obtain rfl : y = u := by
      have hy' : its.toArray[i]? = some y := hy
      rw [List.getElem?_toArray, hu] at hy'
      exact (Option.some.inj hy').symm
    refine ⟨_, rfl, wpAny_letOwnedTupleGo_enum (s := { s with heap := h', toks := tk + 1 }) ho fun h'' he' sb => ?_⟩
    have hT2 : h''.get? s.heap.objs.size = some { cls := .type "tuple", data := .seq #[.int i tk, y] } := (sb.2 _ (Nat.ne_of_gt hel)).trans hT'
    have new : ObjOk X.prog X.w (upd H s.heap.objs.size (.tup [.int (i : Nat), x])) h'' s.heap.objs.size (.tup [.int (i : Nat), x]) :=
      ⟨by show 2 ≤ sizeLine; decide, [.int i tk, y], .cons ⟨_, rfl⟩ (.cons ru .nil), ⟨_, hT2, rfl, _, rfl⟩⟩
    have I1 := I.turnedNew (t' := tk + 1) (ch := [e, it]) (fun b ob hb q => (sb.2 b (fun z => hb (by simp [z]))).trans (hk b ob (fun z => hb (by simp [z])) (fun z => hb (by simp [z])) q)) hf (Nat.le_refl _) new
    refine ⟨.ref s.heap.objs.size, _, I1, rfl, ⟨_, x, rfl, I.hok.fresh (Nat.le_refl _), rfl, fun ys hys => by rw [I.tuple_inj hys hq]; exact hx⟩, ⟨⟨y, ?_⟩, hit'.1.at fun o q => (sb.2 it (Ne.symm hne)).trans q, hne⟩, fun b hb => ?_⟩
    · rw [show ((i + 1 : Nat) : Int) = (i : Int) + 1 by omega]; exact he'
    · have hb' : b < s.heap.objs.size := by
        rcases (show b = e ∨ b = it by simpa using hb) with rfl | rfl
        · exact hel
        · exact hil
      rw [upd_ne (Nat.ne_of_lt hb')]
      exact (hf b hb).1
  done := by
    intro X hP hw hK hc i pins s σ H E I hf st hg
    subst hP hw hK
    obtain ⟨⟨old, he⟩, hit, hne⟩ := st
    obtain ⟨xs, hq, hx⟩ := hg
    obtain ⟨its, rv, pt, hz⟩ := I.tuple hq
    have hT : s.heap.IsTuple a its.toArray := pt
    obtain ⟨f0, f1, f2, f3, f4, f5⟩ := hf it (by simp)
    have hl := rv.length
    have hT : s.TypeIs (.ref e) "enumerate" := ⟨_, he, rfl⟩
    unfold pyNext
    refine wpAny_bind (wpAny_attempt (wpAny_callSpecial?_slot (name := Str.ofString "__next__") hT F.slot_enumerate_next (wpAny_call_entry F.slot_enumerate_next hT F.entry_enumerate_next ?_ (F.args_enumerate_next_1 _))))
    show wpAny _ _ (field (.ref e) 2 >>= _) _ _ _
    refine wpAny_bind (wpAny_field he rfl (x := .ref it) rfl ?_)
    refine wpAny_bind (wpAny_nextOf_tuple_end (I.ok.hd hc) hit pt (by simp; omega) fun h' x eb hx' => ?_)
    obtain ⟨o, ho, hcx⟩ := hx'
    refine wpAny_bind (wpAny_isInstance (T := "StopIteration") (b := true) ⟨o, ho, hcx⟩ isSubtype_stop ?_)
    exact wpAny_pure ⟨rfl, I.turned (t' := s.toks) (fun b o hb q => eb b o hb q) f0 f1 f3 f4 f5⟩
  self := fun A i s Q E st h => let ⟨⟨_, he⟩, _⟩ := st; wpAny_pyIter_enum he h
def iEnumT (K : PySem.W.Frag) (ta : TA) : TI := fun σ H R => ta σ H fun vs H1 => ∃ a xs, vs = [.ref a] ∧ SqT K H1 a xs ∧ R (Itet K a) H1
theorem pi_enumT {X : Cx} {e : Expr} {ta : TA} {p pos tpos : Pos} {elts : List Expr} {kk : Nat} (hg : Gl X "enumerate") (hm : X.mg "enumerate" = none) (ha : PA X [e] ta)
    (hs : starEach [e] X.env = [(false, eval e X.env)] := by rfl) : PI X (.Tuple elts kk tpos) (.Call (.Name "enumerate" p) [e] [] pos) (iEnumT X.K ta) := by
  refine ⟨fun pins s σ H R I h => Call_ (ld_blt I hg hm boot_enumerate (PyProof.Rows.callWith_type1 (thn (ha.run pos pins s σ H _ I h) fun us s1 ⟨vs, H1, I1, r1, a, xs, ex, hq, q⟩ => ?_) hs rfl))⟩
  subst ex
  obtain ⟨u, rfl, rx⟩ := vals1 r1
  cases rx
  obtain ⟨its, rv, pt, hz⟩ := I1.tuple hq
  refine call_enumT pt fun h' he hit hsz hk => wpAny_pyIter_enum he ?_
  refine ⟨s1.heap.objs.size + 1, [s1.heap.objs.size + 1, s1.heap.objs.size], _, _, H1, rfl, I1.kept (t' := s1.toks) hk, turn_enumT a (s1.heap.objs.size + 1) s1.heap.objs.size, ⟨⟨.none, he⟩, hit, Nat.succ_ne_self _⟩, fun b hb => ?_, q⟩
  have hle : s1.heap.objs.size ≤ b := by
    rcases (show b = s1.heap.objs.size + 1 ∨ b = s1.heap.objs.size by simpa using hb) with rfl | rfl
    · exact Nat.le_add_right _ _
    · exact Nat.le_refl _
  exact I1.fpOk hle (I1.hok.fresh hle)
theorem walk_enumT {K : PySem.W.Frag} {a : Addr} {xs : List V} : Walk (Itet K a) xs.length (fun H => SqT K H a xs) (YPair (fun i => some (.int (i : Nat))) (fun i => xs[i]?)) := by
  refine ⟨fun i _ hi q => ⟨xs, xs[i], q, by simp [hi]⟩, fun _ q => ⟨xs, q, Nat.le_refl _⟩, fun i H v H' _ q y => ?_⟩
  obtain ⟨T, x, h1, h2, h3, h4⟩ := y
  exact ⟨T, .int (i : Nat), x, h1, h2, h3, rfl, h4 xs q⟩
end Pr
namespace Pr
open PySem PySem.Spec PyProof.Rows L2
/-! ### data that repr can show: how deep, how long -/
structure Shw (dep n : Nat) (d : PyData) : Prop where
  sh : d.showable = true
  nd : d.hasDict = false
  dp : d.depth ≤ dep
  ln : d.shown.length ≤ n
theorem Shw.mono {dep dep' n n' : Nat} {d : PyData} (h : Shw dep n d) (h1 : dep ≤ dep') (h2 : n ≤ n') : Shw dep' n' d := ⟨h.sh, h.nd, Nat.le_trans h.dp h1, Nat.le_trans h.ln h2⟩
theorem Shw.int {i : Int} {k : Nat} (h0 : 0 ≤ i) (hk : 0 < k) (hk2 : k ≤ 100) (h : i < 10 ^ k) : Shw 0 k (.int i) := by
  refine ⟨?_, by simp only [PyData.hasDict], by simp [PyData.depth], ?_⟩
  · simp only [PyData.showable, decide_eq_true_eq]
    by_cases hz : i.natAbs = 0
    · rw [hz]; decide
    · refine (Nat.log2_lt hz).mpr ?_
      have h1 : (i.natAbs : Int) < ((10 ^ k : Nat) : Int) := by
        rw [Int.natCast_pow]
        have : ((i.natAbs : Nat) : Int) = i := Int.natAbs_of_nonneg h0
        rw [this]; exact h
      have h2 : i.natAbs < 10 ^ k := by exact_mod_cast h1
      have h3 : (10 : Nat) ^ k ≤ 10 ^ 100 := Nat.pow_le_pow_right (by decide) hk2
      have h4 : (10 : Nat) ^ 100 < 2 ^ 1920 := by decide +kernel
      omega
  · simp only [PyData.shown]
    exact toString_length_le h0 hk h
theorem shownAll_map : ∀ ds : List PyData, PyData.shownAll ds = ds.map PyData.shown
  | [] => rfl
  | d :: r => by simp only [PyData.shownAll, List.map_cons, shownAll_map r]
theorem piled_le {n : Nat} : ∀ {ds : List PyData}, (∀ d ∈ ds, d.shown.length ≤ n) → piled (ds.map PyData.shown) ≤ ds.length * (n + 2)
  | [], _ => by simp [piled_nil]
  | d :: r, h => by
    have h1 := piled_le (ds := r) fun x hx => h x (List.mem_cons_of_mem _ hx)
    have h2 := h d List.mem_cons_self
    rw [List.map_cons, piled_cons, List.length_cons, Nat.succ_mul]
    omega
theorem showAll_of {dep n : Nat} : ∀ {ds : List PyData}, (∀ d ∈ ds, Shw dep n d) → PyData.showableAll ds = true ∧ PyData.hasDictAll ds = false ∧ PyData.depthAll ds ≤ dep
  | [], _ => ⟨by simp only [PyData.showableAll], by simp only [PyData.hasDictAll], by simp [PyData.depthAll]⟩
  | d :: r, h => by
    obtain ⟨h1, h2, h3⟩ := showAll_of (ds := r) fun x hx => h x (List.mem_cons_of_mem _ hx)
    have g := h d List.mem_cons_self
    refine ⟨by simp only [PyData.showableAll, g.sh, h1, Bool.and_self], by simp only [PyData.hasDictAll, g.nd, h2, Bool.or_self], ?_⟩
    simp only [PyData.depthAll]
    exact Nat.max_le.mpr ⟨g.dp, h3⟩
theorem tupleText_len (ts : List Str) : (tupleText ts).length ≤ piled ts + 3 := by
  unfold tupleText
  rw [strLen_append, strLen_append]
  have e1 : (("(" : Str)).length = 1 := by decide +kernel
  have e2 : ((if ts.length == 1 then ",)" else ")" : String) : Str).length ≤ 2 := by
    cases ts.length == 1 <;> decide +kernel
  by_cases h : ts = []
  · subst h
    have : (Str.join ", " ([] : List Str)).length = 0 := by decide +kernel
    omega
  · have := join_length_add ts h
    omega
theorem textFrom_le : ∀ (ts : List Str) (k : Nat) (acc : Str), (textFrom k acc ts).length ≤ acc.length + piled ts
  | [], k, acc => by simp [textFrom, piled_nil]
  | t :: r, k, acc => by
    have h := textFrom_le r (k + 1) (acc ++ (if k > 0 then ", " else "" : String) ++ t)
    rw [piled_cons]
    show (textFrom (k + 1) _ r).length ≤ _
    have e : ((if k > 0 then ", " else "" : String) : Str).length ≤ 2 := by split <;> decide +kernel
    rw [strLen_append, strLen_append] at h
    omega
theorem listText_len (ts : List Str) : (listText ts).length ≤ piled ts + 2 := by
  unfold listText
  rw [strLen_append]
  have h := textFrom_le ts 0 "["
  have e1 : (("[" : Str)).length = 1 := by decide +kernel
  have e2 : (("]" : Str)).length = 1 := by decide +kernel
  omega
theorem Shw.tuple {dep n m : Nat} {ds : List PyData} (h : ∀ d ∈ ds, Shw dep n d) (hm : ds.length ≤ m) : Shw (dep + 1) (m * (n + 2) + 3) (.tuple ds) := by
  obtain ⟨h1, h2, h3⟩ := showAll_of h
  refine ⟨by simp only [PyData.showable, h1], by simp only [PyData.hasDict, h2], by simp only [PyData.depth]; omega, ?_⟩
  simp only [PyData.shown]
  rw [shownAll_map]
  have a1 := tupleText_len (ds.map PyData.shown)
  have a2 := piled_le fun d hd => (h d hd).ln
  have a3 : ds.length * (n + 2) ≤ m * (n + 2) := Nat.mul_le_mul_right _ hm
  omega
theorem Shw.list {dep n m : Nat} {ds : List PyData} (h : ∀ d ∈ ds, Shw dep n d) (hm : ds.length ≤ m) : Shw (dep + 1) (m * (n + 2) + 3) (.list ds) := by
  obtain ⟨h1, h2, h3⟩ := showAll_of h
  refine ⟨by simp only [PyData.showable, h1], by simp only [PyData.hasDict, h2], by simp only [PyData.depth]; omega, ?_⟩
  simp only [PyData.shown]
  rw [shownAll_map]
  have a1 := listText_len (ds.map PyData.shown)
  have a2 := piled_le fun d hd => (h d hd).ln
  have a3 : ds.length * (n + 2) ≤ m * (n + 2) := Nat.mul_le_mul_right _ hm
  omega

/-! ### the deck, panels -/
/-- only what stands at a and c may have changed -/
def But (a c : Addr) (H H' : Hp) : Prop := ∀ b o, b ≠ a → b ≠ c → H b = some o → H' b = some o
theorem But.refl (a c : Addr) (H : Hp) : But a c H H := fun _ _ _ _ h => h
theorem But.trans {a c : Addr} {H H1 H2 : Hp} (x : But a c H H1) (y : But a c H1 H2) : But a c H H2 := fun b o h1 h2 h => y b o h1 h2 (x b o h1 h2 h)
theorem But.of {a c : Addr} {H H' : Hp} (x : Same H H') : But a c H H' := fun b o _ _ h => x b o h
theorem same_new {H : Hp} {p : Addr} {o : HO} (h : H p = none) : Same H (upd H p o) := fun b x e => by
  rw [upd_ne (ne_of_none e h)]; exact e
/-- the deck at a, its cells at c, m draws may still be made -/
def Deck (H : Hp) (a c : Addr) (m : Nat) : Prop :=
  ∃ (cells : List Int) (n : Nat), H a = some (.lst [.ref c, .int (n : Int)]) ∧ H c = some (.lst (cells.map V.int)) ∧ a ≠ c ∧ cells.length ≤ 63 ∧ n + m ≤ 1000000
theorem Deck.same {H H' : Hp} {a c : Addr} {m : Nat} (e : Same H H') (h : Deck H a c m) : Deck H' a c m :=
  let ⟨cs, n, h1, h2, h3⟩ := h; ⟨cs, n, e _ _ h1, e _ _ h2, h3⟩
theorem Deck.less {H : Hp} {a c : Addr} {m m' : Nat} (h : Deck H a c m) (z : m' ≤ m) : Deck H a c m' :=
  let ⟨cs, n, h1, h2, h3, h4, h5⟩ := h; ⟨cs, n, h1, h2, h3, h4, by omega⟩
theorem Deck.apart {H : Hp} {a c : Addr} {m : Nat} (h : Deck H a c m) {b : Addr} {o : HO} (e : H b = some o) (ho : ∀ xs, o ≠ .lst xs) : b ≠ a ∧ b ≠ c := by
  obtain ⟨cs, n, h1, h2, _⟩ := h
  exact ⟨ne_of e h1 (ho _), ne_of e h2 (ho _)⟩
theorem Deck.fresh {H : Hp} {a c : Addr} {m : Nat} (h : Deck H a c m) {b : Addr} (e : H b = none) : b ≠ a ∧ b ≠ c := by
  obtain ⟨cs, n, h1, h2, _⟩ := h
  exact ⟨Ne.symm (ne_of_none h1 e), Ne.symm (ne_of_none h2 e)⟩
theorem FT.but {H H' : Hp} {a c p : Addr} {m : Nat} {xs : List V} (d : Deck H a c m) (b : But a c H H') (h : FT H p xs) : FT H' p xs := by
  obtain ⟨o, e, z⟩ := h
  have q := d.apart e (fun _ => by intro z; cases z)
  exact ⟨o, b _ _ q.1 q.2 e, z⟩
theorem tup_but {H H' : Hp} {a c p : Addr} {m : Nat} {xs : List V} (d : Deck H a c m) (b : But a c H H') (h : H p = some (.tup xs)) : H' p = some (.tup xs) := by
  have q := d.apart h (fun _ => by intro z; cases z)
  exact b _ _ q.1 q.2 h
/-- a panel at p -/
def PanAt (H : Hp) (p : Addr) (pan : List (List Int)) : Prop := ∃ qs : List Addr, FT H p (qs.map V.ref) ∧ Paired (fun q l => FT H q (l.map V.int)) qs pan
theorem PanAt.same {H H' : Hp} {p : Addr} {pan : List (List Int)} (e : Same H H') (h : PanAt H p pan) : PanAt H' p pan :=
  let ⟨qs, h1, h2⟩ := h; ⟨qs, h1.same e, h2.mono fun _ _ x => x.same e⟩
theorem PanAt.but {H H' : Hp} {a c p : Addr} {m : Nat} {pan : List (List Int)} (d : Deck H a c m) (b : But a c H H') (h : PanAt H p pan) : PanAt H' p pan :=
  let ⟨qs, h1, h2⟩ := h; ⟨qs, h1.but d b, h2.mono fun _ _ x => x.but d b⟩
theorem paired_get {α β : Type} {F : α → β → Prop} : ∀ {l1 : List α} {l2 : List β}, Paired F l1 l2 → ∀ (i : Nat) (y : β), l2[i]? = some y → ∃ x, l1[i]? = some x ∧ F x y
  | _, _, .nil, i, y, h => by simp at h
  | _, _, .cons r t, 0, y, h => by simp at h; subst h; exact ⟨_, rfl, r⟩
  | _, _, .cons r t, i + 1, y, h => by
    obtain ⟨x, h1, h2⟩ := paired_get t i y (by simpa using h)
    exact ⟨x, by simpa using h1, h2⟩
/-- what the document calls a panel of at most ten buttons -/
structure Good (pan : List (List Int)) : Prop where
  pos : 1 ≤ pan.length
  few : pan.length ≤ 10
  up : ∀ l ∈ pan, l.Pairwise (· < ·)
  rng : ∀ l ∈ pan, ∀ x ∈ l, 0 ≤ x ∧ x < (pan.length : Int)
  own : ∀ (i : Nat) (l : List Int), pan[i]? = some l → (i : Int) ∉ l
def dInts (l : List Int) : PyData := .tuple (l.map PyData.int)
def dPan (pan : List (List Int)) : PyData := .tuple (pan.map dInts)
section
variable {K : PySem.W.Frag} {H : Hp}
theorem dpAll_ints : ∀ l : List Int, DpAll K H (l.map V.int) (l.map PyData.int)
  | [] => .nil
  | x :: r => .cons (.int x) (dpAll_ints r)
theorem dp_ints {q : Addr} {l : List Int} (h : SqT K H q (l.map V.int)) : Dp K H (.ref q) (dInts l) := .tup h (dpAll_ints l)
theorem dpAll_pan : ∀ {qs : List Addr} {pan : List (List Int)}, Paired (fun q l => FT H q (l.map V.int)) qs pan → DpAll K H (qs.map V.ref) (pan.map dInts)
  | _, _, .nil => .nil
  | _, _, .cons r t => .cons (dp_ints r.sq) (dpAll_pan t)
theorem PanAt.dp {p : Addr} {pan : List (List Int)} (h : PanAt H p pan) : Dp K H (.ref p) (dPan pan) := by
  obtain ⟨qs, h1, h2⟩ := h
  exact .tup h1.sq (dpAll_pan h2)
end
theorem pw_length {n : Nat} : ∀ {l : List Int} {lo : Int}, l.Pairwise (· < ·) → (∀ x ∈ l, lo ≤ x ∧ x < lo + n) → l.length ≤ n := by
  induction n with
  | zero =>
    intro l lo _ h
    cases l with
    | nil => exact Nat.le_refl _
    | cons x r => have := h x List.mem_cons_self; omega
  | succ n ih =>
    intro l lo hp h
    cases l with
    | nil => exact Nat.zero_le _
    | cons x r =>
      have hx := h x List.mem_cons_self
      rw [List.pairwise_cons] at hp
      have := ih (l := r) (lo := lo + 1) hp.2 fun y hy => by
        have h1 := hp.1 y hy
        have h2 := h y (List.mem_cons_of_mem _ hy)
        omega
      rw [List.length_cons]; omega
theorem shw_ints {l : List Int} {m : Nat} (hl : l.length ≤ m) (h : ∀ x ∈ l, 0 ≤ x ∧ x < 10) : Shw 1 (m * 3 + 3) (dInts l) := by
  refine Shw.tuple (fun d hd => ?_) (by rw [List.length_map]; exact hl)
  obtain ⟨x, hx, rfl⟩ := List.mem_map.mp hd
  exact Shw.int (h x hx).1 (by decide) (by decide) (h x hx).2
theorem Good.shw {pan : List (List Int)} (g : Good pan) : Shw 2 353 (dPan pan) := by
  have := Shw.tuple (dep := 1) (n := 33) (m := 10) (ds := pan.map dInts) (fun d hd => ?_) (by rw [List.length_map]; exact g.few)
  · exact this
  · obtain ⟨l, hl, rfl⟩ := List.mem_map.mp hd
    have hf := g.few
    refine shw_ints (m := 10) (pw_length (n := 10) (lo := 0) (g.up l hl) fun x hx => ?_) fun x hx => ?_
    · have := g.rng l hl x hx; omega
    · have := g.rng l hl x hx; omega
end Pr
/-! Presses, as plain functions. -/
namespace Pr
open PySem PySem.Spec PyProof.Rows L2
def intL (n : Nat) : List Int := (List.range n).map fun i : Nat => (i : Int)
theorem mem_intL {n : Nat} {x : Int} : x ∈ intL n ↔ 0 ≤ x ∧ x < (n : Int) := by
  unfold intL
  rw [List.mem_map]
  constructor
  · rintro ⟨i, hi, rfl⟩
    have := List.mem_range.mp hi
    omega
  · rintro ⟨h0, h1⟩
    exact ⟨x.toNat, List.mem_range.mpr (by omega), Int.toNat_of_nonneg h0⟩
theorem intL_up (n : Nat) : (intL n).Pairwise (· < ·) := by
  unfold intL
  rw [List.pairwise_map]
  exact List.pairwise_lt_range.imp fun {a b} (h : a < b) => by omega
theorem intL_len (n : Nat) : (intL n).length = n := by unfold intL; rw [List.length_map, List.length_range]
theorem intL_succ (n : Nat) : intL (n + 1) = intL n ++ [(n : Int)] := by unfold intL; rw [List.range_succ, List.map_append]; rfl
/-- a state of n buttons -/
structure Asc (n : Nat) (st : List Int) : Prop where
  up : st.Pairwise (· < ·)
  rng : ∀ x ∈ st, 0 ≤ x ∧ x < (n : Int)
theorem Asc.nil (n : Nat) : Asc n [] := ⟨List.Pairwise.nil, fun _ h => by cases h⟩
theorem Asc.full (n : Nat) : Asc n (intL n) := ⟨intL_up n, fun _ h => mem_intL.mp h⟩
theorem Asc.filter (n : Nat) (f : Int → Bool) : Asc n ((intL n).filter f) := ⟨(intL_up n).filter f, fun _ h => mem_intL.mp (List.mem_filter.mp h).1⟩
theorem Asc.len {n : Nat} {st : List Int} (h : Asc n st) : st.length ≤ n := pw_length (lo := 0) h.up fun x hx => by have := h.rng x hx; omega
theorem asc_ext : ∀ {l1 l2 : List Int}, l1.Pairwise (· < ·) → l2.Pairwise (· < ·) → (∀ x, x ∈ l1 ↔ x ∈ l2) → l1 = l2
  | [], [], _, _, _ => rfl
  | [], y :: r, _, _, h => absurd ((h y).mpr List.mem_cons_self) (by simp)
  | x :: r, [], _, _, h => absurd ((h x).mp List.mem_cons_self) (by simp)
  | x :: r, y :: t, h1, h2, h => by
    rw [List.pairwise_cons] at h1 h2
    have exy : x = y := by
      rcases List.mem_cons.mp ((h x).mp List.mem_cons_self) with e | e
      · exact e
      · rcases List.mem_cons.mp ((h y).mpr List.mem_cons_self) with e' | e'
        · exact e'.symm
        · have a1 := h2.1 x e
          have a2 := h1.1 y e'
          omega
    subst exy
    have : r = t := asc_ext h1.2 h2.2 fun z => by
      constructor
      · intro hz
        rcases List.mem_cons.mp ((h z).mp (List.mem_cons_of_mem _ hz)) with e | e
        · have := h1.1 z hz; omega
        · exact e
      · intro hz
        rcases List.mem_cons.mp ((h z).mpr (List.mem_cons_of_mem _ hz)) with e | e
        · have := h2.1 z hz; omega
        · exact e
    rw [this]
theorem Asc.eq {n : Nat} {st : List Int} (h : Asc n st) : (intL n).filter (fun x => decide (x ∈ st)) = st :=
  asc_ext ((intL_up n).filter _) h.up fun x => by
    rw [List.mem_filter, decide_eq_true_eq, mem_intL]
    exact ⟨fun q => q.2, fun q => ⟨h.rng x q, q⟩⟩
def pressM (pan : List (List Int)) (st : List Int) (b : Int) : List Int := (intL pan.length).filter fun x => decide (x = b ∨ (x ∈ st ∧ x ∉ pan.getD b.toNat []))
def runM (pan : List (List Int)) (st : List Int) (row : List Int) : List Int := row.foldl (pressM pan) st
theorem pressM_asc (pan : List (List Int)) (st : List Int) (b : Int) : Asc pan.length (pressM pan st b) := Asc.filter _ _
theorem runM_asc {pan : List (List Int)} : ∀ {row st : List Int}, Asc pan.length st → Asc pan.length (runM pan st row)
  | [], _, h => h
  | b :: r, st, _ => runM_asc (row := r) (pressM_asc pan st b)
theorem mem_pressM {pan : List (List Int)} {st : List Int} {b x : Int} : x ∈ pressM pan st b ↔ (0 ≤ x ∧ x < (pan.length : Int)) ∧ (x = b ∨ (x ∈ st ∧ x ∉ pan.getD b.toNat [])) := by
  unfold pressM
  rw [List.mem_filter, decide_eq_true_eq, mem_intL]
theorem runM_take {pan : List (List Int)} {st row : List Int} {k : Nat} {b : Int} (h : row[k]? = some b) : runM pan st (row.take (k + 1)) = pressM pan (runM pan st (row.take k)) b := by
  unfold runM
  rw [List.take_add_one, h, List.foldl_append]; rfl
/-- what press_button makes: the kept ones and the button, sorted -/
theorem press_sorted {pan : List (List Int)} {st : List Int} {b : Int} {ns : List Int} (hs : Asc pan.length st) (h0 : 0 ≤ b) (h1 : b < (pan.length : Int))
    (hp : ns.Perm (st.filter (fun x => decide (x ≠ b ∧ x ∉ pan.getD b.toNat [])) ++ [b])) (hle : ns.Pairwise (· ≤ ·)) : ns = pressM pan st b := by
  have nd0 : (st.filter (fun x => decide (x ≠ b ∧ x ∉ pan.getD b.toNat [])) ++ [b]).Nodup := by
    refine List.nodup_append.mpr ⟨(hs.up.imp fun {x y} (q : x < y) => by omega : st.Nodup).filter _, by simp, fun x hx y hy e => ?_⟩
    rw [List.mem_singleton] at hy
    have := (List.mem_filter.mp hx).2
    rw [decide_eq_true_eq] at this
    exact this.1 (e.trans hy)
  have nd : ns.Nodup := hp.nodup_iff.mpr nd0
  have up : ns.Pairwise (· < ·) := (hle.and nd).imp fun {x y} (q : x ≤ y ∧ x ≠ y) => by omega
  refine asc_ext up (pressM_asc pan st b).up fun x => ?_
  rw [hp.mem_iff, mem_pressM, List.mem_append, List.mem_filter, decide_eq_true_eq, List.mem_singleton]
  constructor
  · rintro (⟨a1, a2⟩ | a)
    · exact ⟨hs.rng x a1, .inr ⟨a1, a2.2⟩⟩
    · subst a; exact ⟨⟨h0, h1⟩, .inl rfl⟩
  · rintro ⟨_, a | a⟩
    · exact .inr a
    · by_cases e : x = b
      · exact .inr e
      · exact .inl ⟨a.1, e, a.2⟩
/-- marks -/
def marks (n : Nat) (st : List Int) : List Bool := (List.range n).map fun i : Nat => decide ((i : Int) ∈ st)
theorem marks_len (n : Nat) (st : List Int) : (marks n st).length = n := by unfold marks; rw [List.length_map, List.length_range]
theorem marks_get {n : Nat} {st : List Int} {i : Nat} (h : i < n) : (marks n st)[i]? = some (decide ((i : Int) ∈ st)) := by
  unfold marks
  rw [List.getElem?_map, List.getElem?_range h]; rfl
theorem marks_set {pan : List (List Int)} {st : List Int} {b : Nat} (hb : b < pan.length) :
    ((List.range pan.length).map fun i : Nat => (decide ((i : Int) ∈ st) && !decide ((i : Int) ∈ pan.getD b []))).set b true = marks pan.length (pressM pan st (b : Int)) := by
  refine List.ext_getElem? fun i => ?_
  by_cases hi : i < pan.length
  · rw [marks_get hi, List.getElem?_set]
    by_cases e : b = i
    · subst e
      rw [if_pos rfl, if_pos (by rw [List.length_map, List.length_range]; exact hi)]
      congr 1
      exact (decide_eq_true (mem_pressM.mpr ⟨⟨by omega, by omega⟩, .inl rfl⟩)).symm
    · rw [if_neg e, List.getElem?_map, List.getElem?_range hi]
      show some _ = some _
      congr 1
      rw [Bool.eq_iff_iff, Bool.and_eq_true, decide_eq_true_eq, Bool.not_eq_true', decide_eq_false_iff_not, decide_eq_true_eq, mem_pressM, Int.toNat_natCast]
      constructor
      · rintro ⟨a, a'⟩
        exact ⟨⟨by omega, by omega⟩, .inr ⟨a, a'⟩⟩
      · rintro ⟨_, a | a⟩
        · omega
        · exact a
  · rw [List.getElem?_eq_none (by rw [List.length_set, List.length_map, List.length_range]; omega), List.getElem?_eq_none (by rw [marks_len]; omega)]
end Pr
/-! Data of any kind, with dicts; its lists stand apart from the deck (a, c). -/
namespace Pr
open PySem PySem.Spec PyProof.Rows L2
mutual
inductive Dq (K : PySem.W.Frag) (N : Addr → Prop) (H : Hp) : V → PyData → Prop
  | non : Dq K N H .non .none
  | bl (b : Bool) : Dq K N H (.bl b) (.bool b)
  | int (i : Int) : Dq K N H (.int i) (.int i)
  | str (x : Str) : Dq K N H (.str x) (.str x)
  | lst {l : Addr} {xs : List V} {ds : List PyData} : l ≠ sysModules → ¬ N l → H l = some (.lst xs) → DqAll K N H xs ds → Dq K N H (.ref l) (.list ds)
  | tup {l : Addr} {xs : List V} {ds : List PyData} : SqT K H l xs → DqAll K N H xs ds → Dq K N H (.ref l) (.tuple ds)
  | dct0 {l : Addr} : H l = some (.dK []) → Dq K N H (.ref l) (.dict [])
  | dct1 {l : Addr} {x : Str} {i : Int} : H l = some (.dK [(Sum.inr x, .int i)]) → Dq K N H (.ref l) (.dict [(.str x, .int i)])
inductive DqAll (K : PySem.W.Frag) (N : Addr → Prop) (H : Hp) : List V → List PyData → Prop
  | nil : DqAll K N H [] []
  | cons {v : V} {vs : List V} {d : PyData} {ds : List PyData} : Dq K N H v d → DqAll K N H vs ds → DqAll K N H (v :: vs) (d :: ds)
end
section
variable {K : PySem.W.Frag} {N : Addr → Prop} {a c : Addr} {H H' : Hp}
theorem DqAll.length : ∀ {vs : List V} {ds : List PyData}, DqAll K N H vs ds → vs.length = ds.length
  | _, _, .nil => rfl
  | _, _, .cons _ t => by rw [List.length_cons, List.length_cons, t.length]
theorem DqAll.append : ∀ {vs us : List V} {ds es : List PyData}, DqAll K N H vs ds → DqAll K N H us es → DqAll K N H (vs ++ us) (ds ++ es)
  | _, _, _, _, .nil, h => h
  | _, _, _, _, .cons r t, h => .cons r (t.append h)
theorem DqAll.get : ∀ {vs : List V} {ds : List PyData}, DqAll K N H vs ds → ∀ (i : Nat) (v : V), vs[i]? = some v → ∃ d, ds[i]? = some d ∧ Dq K N H v d
  | _, _, .nil, i, v, h => by simp at h
  | _, _, .cons r t, 0, v, h => by simp at h; subst h; exact ⟨_, rfl, r⟩
  | _, _, .cons r t, i + 1, v, h => by
    obtain ⟨d, h1, h2⟩ := t.get i v (by simpa using h)
    exact ⟨d, by simpa using h1, h2⟩
theorem DqAll.take : ∀ (n : Nat) {vs : List V} {ds : List PyData}, DqAll K N H vs ds → DqAll K N H (vs.take n) (ds.take n)
  | 0, _, _, _ => by simpa using DqAll.nil
  | n + 1, _, _, .nil => .nil
  | n + 1, _, _, .cons r t => .cons r (t.take n)
theorem DqAll.drop : ∀ (n : Nat) {vs : List V} {ds : List PyData}, DqAll K N H vs ds → DqAll K N H (vs.drop n) (ds.drop n)
  | 0, _, _, h => h
  | n + 1, _, _, .nil => .nil
  | n + 1, _, _, .cons r t => t.drop n
theorem DqAll.reverse : ∀ {vs : List V} {ds : List PyData}, DqAll K N H vs ds → DqAll K N H vs.reverse ds.reverse
  | _, _, .nil => .nil
  | _, _, .cons r t => by rw [List.reverse_cons, List.reverse_cons]; exact t.reverse.append (.cons r .nil)
theorem DqAll.rep (n : Nat) {vs : List V} {ds : List PyData} (h : DqAll K N H vs ds) : DqAll K N H (List.replicate n vs).flatten (List.replicate n ds).flatten := by
  induction n with
  | zero => exact .nil
  | succ n ih => rw [List.replicate_succ, List.replicate_succ, List.flatten_cons, List.flatten_cons]; exact h.append ih
theorem dqAll_ints : ∀ l : List Int, DqAll K N H (l.map V.int) (l.map PyData.int)
  | [] => .nil
  | x :: r => .cons (.int x) (dqAll_ints r)
theorem dq_ints {q : Addr} {l : List Int} (h : SqT K H q (l.map V.int)) : Dq K N H (.ref q) (dInts l) := .tup h (dqAll_ints l)
theorem dqAll_pan : ∀ {qs : List Addr} {pan : List (List Int)}, Paired (fun q l => FT H q (l.map V.int)) qs pan → DqAll K N H (qs.map V.ref) (pan.map dInts)
  | _, _, .nil => .nil
  | _, _, .cons r t => .cons (dq_ints r.sq) (dqAll_pan t)
mutual
theorem Dq.keep (hs : ∀ l o, ¬ N l → H l = some o → H' l = some o) (ht : ∀ l xs, SqT K H l xs → SqT K H' l xs) (hk : ∀ l kvs, H l = some (.dK kvs) → H' l = some (.dK kvs)) : ∀ (d : PyData) (v : V), Dq K N H v d → Dq K N H' v d
  | .none, _, h => by cases h; exact .non
  | .bool b, _, h => by cases h; exact .bl b
  | .int i, _, h => by cases h; exact .int i
  | .str x, _, h => by cases h; exact .str x
  | .list ds, _, h => by
    cases h with
    | lst h1 h2 e q => exact .lst h1 h2 (hs _ _ h2 e) (Dq.keepAll hs ht hk ds _ q)
  | .tuple ds, _, h => by
    cases h with
    | tup e q => exact .tup (ht _ _ e) (Dq.keepAll hs ht hk ds _ q)
  | .dict kvs, _, h => by
    cases h with
    | dct0 e => exact .dct0 (hk _ _ e)
    | dct1 e => exact .dct1 (hk _ _ e)
theorem Dq.keepAll (hs : ∀ l o, ¬ N l → H l = some o → H' l = some o) (ht : ∀ l xs, SqT K H l xs → SqT K H' l xs) (hk : ∀ l kvs, H l = some (.dK kvs) → H' l = some (.dK kvs)) : ∀ (ds : List PyData) (vs : List V), DqAll K N H vs ds → DqAll K N H' vs ds
  | [], _, h => by cases h; exact .nil
  | d :: ds, _, h => by
    cases h with
    | cons r t => exact .cons (Dq.keep hs ht hk d _ r) (Dq.keepAll hs ht hk ds _ t)
end
theorem Deck.sqT {m : Nat} (D : Deck H a c m) (b : But a c H H') {l : Addr} {xs : List V} (h : SqT K H l xs) : SqT K H' l xs := by
  rcases h with (h | ⟨o, h⟩) | h
  · exact .inl (.inl (b _ _ (D.apart h (fun _ => by intro z; cases z)).1 (D.apart h (fun _ => by intro z; cases z)).2 h))
  · exact .inl (.inr ⟨o, b _ _ (D.apart h (fun _ => by intro z; cases z)).1 (D.apart h (fun _ => by intro z; cases z)).2 h⟩)
  · exact .inr h
theorem Deck.dk {m : Nat} (D : Deck H a c m) (l : Addr) (kvs : List (Key × V)) (h : H l = some (.dK kvs)) : l ≠ a ∧ l ≠ c := D.apart h (fun _ => by intro z; cases z)
theorem apart_N (na : N a) (nc : N c) {l : Addr} (h : ¬ N l) : l ≠ a ∧ l ≠ c := ⟨fun e => h (by rw [e]; exact na), fun e => h (by rw [e]; exact nc)⟩
theorem Dq.but {m : Nat} (na : N a) (nc : N c) (D : Deck H a c m) (b : But a c H H') {v : V} {d : PyData} (h : Dq K N H v d) : Dq K N H' v d :=
  Dq.keep (fun l o h1 e => b l o (apart_N na nc h1).1 (apart_N na nc h1).2 e) (fun _ _ e => D.sqT b e) (fun l kvs e => b _ _ (D.dk l kvs e).1 (D.dk l kvs e).2 e) d v h
theorem DqAll.but {m : Nat} (na : N a) (nc : N c) (D : Deck H a c m) (b : But a c H H') {v : List V} {d : List PyData} (h : DqAll K N H v d) : DqAll K N H' v d :=
  Dq.keepAll (fun l o h1 e => b l o (apart_N na nc h1).1 (apart_N na nc h1).2 e) (fun _ _ e => D.sqT b e) (fun l kvs e => b _ _ (D.dk l kvs e).1 (D.dk l kvs e).2 e) d v h
mutual
theorem Dq.same (e : Same H H') : ∀ (d : PyData) (v : V), Dq K N H v d → Dq K N H' v d
  | .none, _, h => by cases h; exact .non
  | .bool b, _, h => by cases h; exact .bl b
  | .int i, _, h => by cases h; exact .int i
  | .str x, _, h => by cases h; exact .str x
  | .list ds, _, h => by
    cases h with
    | lst h1 h2 q r => exact .lst h1 h2 (e _ _ q) (Dq.sameAll e ds _ r)
  | .tuple ds, _, h => by
    cases h with
    | tup q r => exact .tup (same_sqT e q) (Dq.sameAll e ds _ r)
  | .dict kvs, _, h => by
    cases h with
    | dct0 q => exact .dct0 (e _ _ q)
    | dct1 q => exact .dct1 (e _ _ q)
theorem Dq.sameAll (e : Same H H') : ∀ (ds : List PyData) (vs : List V), DqAll K N H vs ds → DqAll K N H' vs ds
  | [], _, h => by cases h; exact .nil
  | d :: ds, _, h => by
    cases h with
    | cons r t => exact .cons (Dq.same e d _ r) (Dq.sameAll e ds _ t)
end
/-- its built-in type -/
def tyD : PyData → String
  | .none => "NoneType"
  | .bool _ => "bool"
  | .int _ => "int"
  | .str _ => "str"
  | .list _ => "list"
  | .tuple _ => "tuple"
  | .dict _ => "dict"
theorem tyT {l : Addr} {xs : List V} (h : SqT K H l xs) : TyX K H (.ref l) (.type "tuple") := by
  rcases h with (h | ⟨o, h⟩) | ⟨o, its, n, h, hc, _⟩
  · exact .base (.tup h)
  · exact .fTuple h
  · exact .kTuple h hc
theorem Dq.ty {v : V} {d : PyData} (h : Dq K N H v d) : TyX K H v (.type (tyD d)) := by
  cases h with
  | non => exact .base .non
  | bl b => exact .base (.bl b)
  | int i => exact .base (.int i)
  | str x => exact .base (.str x)
  | lst _ _ e _ => exact .base (.lst e)
  | tup e _ => exact tyT e
  | dct0 e => exact .base (.dK e)
  | dct1 e => exact .base (.dK e)
end
section
variable {X : Cx} {pins : List (Addr × Obj)} {σ : L2.St} {H : Hp} {s : Shared} {N : Addr → Prop}
mutual
theorem Dq.reads (I : Inv X pins σ H s) : ∀ (d : PyData) (v : V) (u : Value), Dq X.K N H v d → RelV v u → ∃ as, Reads s.heap u d as ∧ sysModules ∉ as
  | .none, _, _, h, r => by
    cases h; cases r; exact ⟨_, Reads.none, by simp⟩
  | .bool b, _, _, h, r => by
    cases h; cases r; exact ⟨_, Reads.bool b, by simp⟩
  | .int i, _, _, h, r => by
    cases h; obtain ⟨t, rfl⟩ := r; exact ⟨_, Reads.int i t, by simp⟩
  | .str x, _, _, h, r => by
    cases h; obtain ⟨t, rfl⟩ := r; exact ⟨_, Reads.str x t, by simp⟩
  | .list ds, _, _, h, r => by
    cases h with
    | lst h1 _ hs ha =>
      cases r
      obtain ⟨_, its, n, rv, ho⟩ := I.hok _ _ hs
      obtain ⟨as, hr, hn⟩ := Dq.readsAll I ds _ its ha rv
      exact ⟨_, Reads.list ho rfl rfl hr, by simp [hn, Ne.symm h1]⟩
  | .tuple ds, _, _, h, r => by
    cases h with
    | tup hs ha =>
      cases r
      obtain ⟨its, rv, ⟨o, ho, hc, n, hd⟩, _⟩ := I.tuple hs
      obtain ⟨as, hr, hn⟩ := Dq.readsAll I ds _ its ha rv
      exact ⟨_, Reads.tuple ho hc hd hr, hn⟩
  | .dict _, _, _, h, r => by
    cases h with
    | dct0 e =>
      cases r
      obtain ⟨_, ns, vs, kv, o, es, ep, ho, hc, hd, _, hp, _⟩ := I.hok _ _ e
      cases kv
      have he : es.toList = [] := by cases hes : es.toList with
        | nil => rfl
        | cons x y => rw [hes] at hp; cases hp
      have ns' := of_decide_eq_false (show decide (_ = sysModules) = false by simpa using ns)
      refine ⟨_, Reads.dict (kvs := []) ho hc.1 hd (by rw [he]; exact .nil) (by rw [he]; exact .nil), ?_⟩
      simp [Ne.symm ns']
    | @dct1 l x i e =>
      cases r
      obtain ⟨_, ns, vs, kv, o, es, ep, ho, hc, hd, _, hp, _⟩ := I.hok _ _ e
      cases kv with
      | @cons p q l1 l2 kq kr =>
        cases kr
        obtain ⟨h1, t, h2⟩ := kq
        obtain ⟨en, he, hk, hv⟩ : ∃ en, es.toList = [en] ∧ keyIs q.1 en.key = true ∧ en.val = q.2 := by
          cases hes : es.toList with
          | nil => rw [hes] at hp; cases hp
          | cons x y =>
            rw [hes] at hp
            cases hp with
            | cons p1 p2 p3 => cases p3; exact ⟨x, rfl, p1, p2⟩
        have h1' : (Sum.inr x : Key) = q.1 := h1
        rw [← h1'] at hk
        obtain ⟨t', hk'⟩ := Value.isStrOf_shape (show Value.isStrOf x en.key = true from hk)
        have ns' := of_decide_eq_false (show decide (_ = sysModules) = false by simpa using ns)
        refine ⟨_, Reads.dict (kvs := [(.str x, .int i)]) ho hc.1 hd (as := [] ++ []) (bs := [] ++ []) ?_ ?_, ?_⟩
        · rw [he]; show ReadsAll _ [en.key] _ _; rw [hk']; exact .cons (.str x t') .nil
        · rw [he]; show ReadsAll _ [en.val] _ _; rw [hv, h2]; exact .cons (.int i t) .nil
        · simp [Ne.symm ns']
theorem Dq.readsAll (I : Inv X pins σ H s) : ∀ (ds : List PyData) (vs : List V) (us : List Value), DqAll X.K N H vs ds → Vals vs us → ∃ as, ReadsAll s.heap us ds as ∧ sysModules ∉ as
  | [], _, _, h, r => by
    cases h; cases r; exact ⟨_, ReadsAll.nil, by simp⟩
  | d :: ds, _, _, h, r => by
    cases h with
    | cons h1 h2 =>
      cases r with
      | cons r1 r2 =>
        obtain ⟨as, q1, n1⟩ := Dq.reads I d _ _ h1 r1
        obtain ⟨bs, q2, n2⟩ := Dq.readsAll I ds _ _ h2 r2
        exact ⟨_, ReadsAll.cons q1 q2, by simp [n1, n2]⟩
end
end
/-! ### how deep, how long -/
structure Shq (dep n : Nat) (d : PyData) : Prop where
  sh : d.showable = true
  dp : d.depth ≤ dep
  ln : d.shown.length ≤ n
theorem Shq.mono {dep dep' n n' : Nat} {d : PyData} (h : Shq dep n d) (h1 : dep ≤ dep') (h2 : n ≤ n') : Shq dep' n' d := ⟨h.sh, Nat.le_trans h.dp h1, Nat.le_trans h.ln h2⟩
theorem Shw.q {dep n : Nat} {d : PyData} (h : Shw dep n d) : Shq dep n d := ⟨h.sh, h.dp, h.ln⟩
theorem shqAll {dep n : Nat} : ∀ {ds : List PyData}, (∀ d ∈ ds, Shq dep n d) → PyData.showableAll ds = true ∧ PyData.depthAll ds ≤ dep
  | [], _ => ⟨by simp only [PyData.showableAll], by simp [PyData.depthAll]⟩
  | d :: r, h => by
    obtain ⟨h1, h3⟩ := shqAll (ds := r) fun x hx => h x (List.mem_cons_of_mem _ hx)
    have g := h d List.mem_cons_self
    refine ⟨by simp only [PyData.showableAll, g.sh, h1, Bool.and_self], ?_⟩
    simp only [PyData.depthAll]
    exact Nat.max_le.mpr ⟨g.dp, h3⟩
theorem Shq.tuple {dep n m : Nat} {ds : List PyData} (h : ∀ d ∈ ds, Shq dep n d) (hm : ds.length ≤ m) : Shq (dep + 1) (m * (n + 2) + 3) (.tuple ds) := by
  obtain ⟨h1, h3⟩ := shqAll h
  refine ⟨by simp only [PyData.showable, h1], by simp only [PyData.depth]; omega, ?_⟩
  simp only [PyData.shown]
  rw [shownAll_map]
  have a1 := tupleText_len (ds.map PyData.shown)
  have a2 := piled_le fun d hd => (h d hd).ln
  have a3 : ds.length * (n + 2) ≤ m * (n + 2) := Nat.mul_le_mul_right _ hm
  omega
theorem Shq.list {dep n m : Nat} {ds : List PyData} (h : ∀ d ∈ ds, Shq dep n d) (hm : ds.length ≤ m) : Shq (dep + 1) (m * (n + 2) + 3) (.list ds) := by
  obtain ⟨h1, h3⟩ := shqAll h
  refine ⟨by simp only [PyData.showable, h1], by simp only [PyData.depth]; omega, ?_⟩
  simp only [PyData.shown]
  rw [shownAll_map]
  have a1 := listText_len (ds.map PyData.shown)
  have a2 := piled_le fun d hd => (h d hd).ln
  have a3 : ds.length * (n + 2) ≤ m * (n + 2) := Nat.mul_le_mul_right _ hm
  omega
/-! ### repr of such data -/
def rReprQ (K : PySem.W.Frag) : List V → Hp → VK → Prop := fun xs H Q => ∃ (N : Addr → Prop) (v : V) (d : PyData), xs = [v] ∧ Dq K N H v d ∧ Shq 60 sizeLine d ∧ Q (.str d.shown) H
theorem call_reprQ {X : Cx} {k : Nat} (gd : X.A.guards = some []) (hr : Room k X.A) : CallR X (.builtin "repr") (rReprQ X.K) := by
  intro pins s σ H xs us Q I rv h
  obtain ⟨N, v, d, rfl, hd, hs, q⟩ := h
  obtain ⟨u, rfl, rx⟩ := vals1 rv
  have isref : ∀ (l : Addr), v = .ref l → wpAny (model X.prog X.w) X.A (call (.builtin "repr") [u]) (EP X pins σ Q) X.xe s := fun l e => by
    subst e
    obtain ⟨as, r, hn⟩ := Dq.reads I d _ _ hd rx
    obtain rfl : u = .ref l := rx
    exact repr_of_reads' r hs.sh (fun _ => hn) gd (by have := hr.un; have := hs.dp; omega) (fun _ _ e => e) (fun h' t tk hk => ⟨.str d.shown, H, I.kept hk, ⟨t, rfl⟩, q⟩) hs.ln
  cases hd with
  | non => obtain rfl : u = .none := rx; exact PySem.P.repr_of_none ⟨.str "None", H, I.tok _, ⟨_, rfl⟩, by simpa only [PyData.shown] using q⟩
  | bl b => obtain rfl : u = .bool b := rx; exact PySem.P.repr_of_bool ⟨.str _, H, I.tok _, ⟨_, rfl⟩, by simpa only [PyData.shown] using q⟩
  | int i =>
    obtain ⟨t, rfl⟩ := rx
    have h1 : i.natAbs.log2 < 1920 := by simpa only [PyData.showable, decide_eq_true_eq] using hs.sh
    exact PySem.P.repr_of_int h1 ⟨.str _, H, I.tok _, ⟨_, rfl⟩, by simpa only [PyData.shown] using q⟩
  | str x =>
    obtain ⟨t, rfl⟩ := rx
    have h1 : (reprText x).length ≤ sizeLine := by simpa only [PyData.shown] using hs.ln
    exact PySem.P.repr_of_str ⟨.str _, H, I.tok _, ⟨_, rfl⟩, by simpa only [PyData.shown] using q⟩ h1
  | lst _ _ _ _ => exact isref _ rfl
  | tup _ _ => exact isref _ rfl
  | dct0 _ => exact isref _ rfl
  | dct1 _ => exact isref _ rfl
end Pr
/-! Rules for what the laws do with values of any kind. -/
namespace Pr
open PySem PySem.Spec PyProof.Rows L2
section
variable {X : Cx} {es : List Expr} {t : TA} {pos : Pos}
/-- a list that stands apart from the modules' table -/
def tLstG (t : TA) : TE := fun σ H Q => t σ H fun xs H1 => xs.length ≤ sizeLine ∧ ∀ p, H1 p = none → p ≠ sysModules → Q (.ref p) (upd H1 p (.lst xs))
theorem pe_lstG (h : PA X es t) : PE X (.List es pos) (tLstG t) := by
  refine ⟨fun pins s σ H Q I hq => wpAny_List_spliced (thn (h.run pos pins s σ H _ I hq) fun us s1 ⟨xs, H1, I1, r, z, q⟩ => ⟨by rw [← r.length]; exact z, ?_⟩)⟩
  refine ⟨.ref s1.heap.objs.size, upd H1 s1.heap.objs.size (.lst xs), I1.laid (t' := s1.toks) (fun b u e => Heap.get?_push_of_some _ e) (Nat.le_refl _) ⟨z, us, 0, r, Heap.get?_push_size _ rfl⟩, rfl,
    q _ (I1.hok.fresh (Nat.le_refl _)) (Nat.ne_of_gt I1.big)⟩
def rListG (K : PySem.W.Frag) : List V → Hp → VK → Prop := fun xs H Q => ∃ p ys, xs = [.ref p] ∧ SqT K H p ys ∧ ∀ l, H l = none → l ≠ sysModules → Q (.ref l) (upd H l (.lst ys))
theorem call_listG : CallR X (.type "list") (rListG X.K) := by
  intro pins s σ H xs us Q I r h
  obtain ⟨p, ys, rfl, hq, q⟩ := h
  obtain ⟨u, rfl, rx⟩ := vals1 r
  cases rx
  obtain ⟨its, r', ⟨o, ho, hc, n, hd⟩, hz⟩ := I.tuple hq
  have hlen := r'.length
  refine call_list_seq p (.inr rfl) ho hc hd (fun h' c' kp e => ?_) (by simp only [List.size_toArray] <;> omega)
  exact ⟨.ref s.heap.objs.size, _, I.laid (t' := s.toks) kp (Nat.le_refl _) (show ObjOk X.prog X.w _ h' _ (.lst ys) from ⟨hz, its, c', r', e⟩), rfl, q _ (I.hok.fresh (Nat.le_refl _)) (Nat.ne_of_gt I.big)⟩
/-- sorted(tuple of ints) -/
def rSortT (K : PySem.W.Frag) : List V → Hp → VK → Prop := fun vs H Q => ∃ (a : Addr) (ns : List Int), vs = [V.ref a] ∧ SqT K H a (ns.map V.int) ∧ ns.length < 64 ∧
  ∀ (ns' : List Int) (p : Addr), ns'.Perm ns → ns'.Pairwise (· ≤ ·) → H p = none → Q (.ref p) (upd H p (.lst (ns'.map V.int)))
theorem cr_sortT : CallR X (.builtin "sorted") (rSortT X.K) := by
  intro pins s σ H vs us Q I r h
  obtain ⟨a, ns, rfl, hs, h64, q⟩ := h
  obtain ⟨its, rv, ⟨o, ho, hc, n, hd⟩, hz⟩ := I.tuple hs
  rw [Vals.ref1 r]
  have hi := rv.ints
  have hlen := hi.length
  refine Calls.call_function_entry kind_sorted plain_sorted entry_sorted (args_sorted1 _) ?_
  unfold Builtin.«sorted»
  refine wpAny_bind (m := checkCount "sorted" 1 1 _) (wpAny_pure ?_)
  refine wpAny_bind (wpAny_collect_seq a (.inr rfl) ho hc hd (fun h' kp => ?_) (by rw [List.size_toArray, hlen]; exact small64 h64))
  have e : its.toArray.toList = its := by simp
  rw [e]
  refine wpAny_bind (wpAny_newList ?_)
  have I1 : Inv X pins σ H { s with heap := h' } := I.kept (t' := s.toks) kp
  have hoL : (h'.push (seqObj "list" its.toArray 0)).get? h'.objs.size = some (seqObj "list" its.toArray 0) := Heap.get?_push_size _ rfl
  refine wpAny_bind (wpAny_holding (wpAny_call_entry slot_list_sort ⟨_, hoL, rfl⟩ entry_list_sort (list_sort_tree hoL hi (by rw [hlen]; exact h64) fun out ns' a1 a2 a3 => ⟨_, rfl, ?_⟩) (args_list_sort _)))
  obtain ⟨ep, he'⟩ := PyProof.Rows.sortedHeap_at (vs := its) (out := out) hoL
  have hl2 : (ns'.map V.int).length ≤ sizeLine := by rw [List.length_map, a2.length_eq]; exact small64 h64
  refine wpAny_pure ⟨_, rfl, .ref h'.objs.size, upd H h'.objs.size (.lst (ns'.map V.int)), I1.laid (t' := s.toks) (fun b ob q => ?_) (Nat.le_refl _) ⟨hl2, out.toList, ep, vals_of_ints a1, he'⟩, rfl, q ns' _ a2 a3 (I1.hok.fresh (Nat.le_refl _))⟩
  have hb : b < h'.objs.size := Heap.lt_size q
  rw [PyProof.Rows.sortedHeap_old (Nat.ne_of_lt hb) (by rw [Heap.size_push]; exact Nat.lt_succ_of_lt hb)]
  exact Heap.get?_push_of_some _ q
/-- set(tuple of ints) -/
def rSetI (K : PySem.W.Frag) (w : World) : List V → Hp → VK → Prop := fun vs H Q => ∃ (a : Addr) (ns : List Int), vs = [V.ref a] ∧ SqT K H a (ns.map V.int) ∧ ns.length ≤ 200 ∧
  ∀ (l : Addr) (n : Nat), H l = none → n ≤ ns.length → Q (.ref l) (upd H l (SetO w l (fun j => decide (j ∈ ns)) n))
theorem cr_setI (hc : X.calm = true) : CallR X (.type "set") (rSetI X.K X.w) := by
  intro pins s σ H vs us Q I r h
  obtain ⟨a, ns, rfl, hs, hn, q⟩ := h
  obtain ⟨its, rv, pt, hz⟩ := I.tuple hs
  rw [Vals.ref1 r]
  have hi := rv.ints
  refine call_set_tupI ns (I.ok.hd hc) pt (by simpa using hi) (Nat.lt_of_le_of_lt (Nat.add_le_add_right hn 1) (by decide)) fun h' tk n R hn' kp => ?_
  exact ⟨.ref s.heap.objs.size, _, I.laid (t' := tk) kp (Nat.le_refl _) (setO_new R), rfl, q _ n (I.hok.fresh (Nat.le_refl _)) hn'⟩
end
/-! ### t[::-1] -/
section
variable {prog : Program} {w : World} {A : Around} {E : Value → Shared → Prop} {s : Shared}
theorem fm_congr {f g : Nat → Option Value} : ∀ {l : List Nat}, (∀ x ∈ l, f x = g x) → l.filterMap f = l.filterMap g
  | [], _ => rfl
  | x :: r, h => by
    rw [List.filterMap_cons, List.filterMap_cons, h x List.mem_cons_self, fm_congr fun y hy => h y (List.mem_cons_of_mem _ hy)]
theorem pick_back (l : List Value) : (List.range l.length).filterMap (fun (k : Nat) => l[(((l.length : Int) - 1) + (k : Int) * (-1)).toNat]?) = l.reverse := by
  have h1 : (List.range l.length).filterMap (fun (k : Nat) => l[(((l.length : Int) - 1) + (k : Int) * (-1)).toNat]?) = (List.range l.length).filterMap (fun (k : Nat) => some ((l[l.length - 1 - k]?).getD .none)) := by
    refine fm_congr fun k hk => ?_
    have hk' := List.mem_range.mp hk
    rw [show (((l.length : Int) - 1) + (k : Int) * (-1)).toNat = l.length - 1 - k by omega, List.getElem?_eq_getElem (by omega)]; rfl
  rw [h1, show (fun (k : Nat) => some ((l[l.length - 1 - k]?).getD Value.none)) = some ∘ (fun k : Nat => (l[l.length - 1 - k]?).getD Value.none) from rfl, List.filterMap_eq_map]
  refine List.ext_getElem? fun i => ?_
  by_cases hi : i < l.length
  · rw [List.getElem?_map, List.getElem?_range hi, List.getElem?_reverse hi, List.getElem?_eq_getElem (by omega)]
    show some ((l[l.length - 1 - i]?).getD Value.none) = _
    rw [List.getElem?_eq_getElem (by omega)]; rfl
  · rw [List.getElem?_eq_none (by rw [List.length_map, List.length_range]; omega), List.getElem?_eq_none (by rw [List.length_reverse]; omega)]
theorem getItem_tuple_back {t sl : Addr} {its : List Value} {Q : Value → Shared → Prop} {vs : Value} (ht : IsTup s.heap t its.toArray) (hs : s.heap.IsSliceOf sl .none .none vs) (ps : IsPart vs (some (-1)))
    (h : Q (.ref s.heap.objs.size) { s with heap := s.heap.push { cls := .type "tuple", data := .seq its.reverse.toArray } }) (hsz : its.length ≤ sizeLine) : wpAny (model prog w) A (getItem (.ref t) (.ref sl)) Q E s := by
  obtain ⟨os, hos, hcs, hds⟩ := id hs
  have hTs : s.TypeIs (.ref sl) "slice" := ⟨os, hos, hcs⟩
  unfold getItem
  try with_reducible refine wpAny_holding ?_
  first | refine wpAny_bind (wpAny_pure ?_) | skip
  refine wpAny_bind (wpAny_sequenceKey ht.typeIs (by decide) ?_)
  refine wpAny_bind (wpAny_callSpecial?_slot (name := Str.ofString "__getitem__") ht.typeIs PyProof.Rows.slot_tuple_getitem (wpAny_call_entry PyProof.Rows.slot_tuple_getitem ht.typeIs entry_tuple_getitem ?_ (args_tuple_getitem _ _)))
  show wpAny _ _ (Builtin.Tuple.tupleItemsOf (.ref t) >>= _) _ _ s
  refine wpAny_bind (tupleItemsOf_ ht (wpAny_bind (wpAny_typeOf hTs ?_)))
  rw [if_pos (by decide)]
  have hp : Builtin.Slice.slicePlaces ((its.length : Int) - 1) (-1) (-1) = its.length := by
    unfold Builtin.Slice.slicePlaces
    rw [if_neg (by omega)]
    split
    · simp only [Int.neg_neg, Int.ediv_one]; omega
    · omega
  refine wpAny_bind ?_
  unfold Builtin.Slice.sliceApplied Builtin.Slice.sliceFields
  refine wpAny_bind (wpAny_bind (wpAny_field hos hds (x := .none) rfl (wpAny_bind (wpAny_field hos hds (x := .none) rfl (wpAny_bind (wpAny_field hos hds (x := vs) rfl (wpAny_pure ?_)))))))
  refine wpAny_bind (HT.slicePart_ ps ?_)
  show wpAny _ _ (if ((-1 : Int) == 0) = true then _ else _) _ _ s
  rw [if_neg (by decide)]
  refine wpAny_bind (slicePart_none (wpAny_bind (slicePart_none (wpAny_bind (wpAny_pure ?_)))))
  show wpAny _ _ (pure (((its.toArray.size : Nat) : Int) - 1, (-1 : Int), Builtin.Slice.slicePlaces (((its.toArray.size : Nat) : Int) - 1) (-1) (-1))) _ _ s
  rw [List.size_toArray, hp]
  refine wpAny_pure ?_
  show wpAny _ _ (if ((((its.length : Nat) : Int) - 1 == 0 && (-1 : Int) == 1 && its.length == its.toArray.size) = true) then _ else _) _ _ s
  rw [if_neg (by rw [show ((-1 : Int) == 1) = false by decide, Bool.and_false, Bool.false_and]; exact Bool.false_ne_true)]
  have ep : ((List.range its.length).filterMap fun (k : Nat) => its.toArray[((its.length : Int) - 1 + (k : Int) * (-1)).toNat]?).toArray = its.reverse.toArray := by
    have := pick_back its
    simp only [List.getElem?_toArray]
    rw [this]
  rw [ep]
  have htake : sizeOk (.seq its.reverse.toArray) := by
    show its.reverse.toArray.size ≤ sizeLine
    rw [List.size_toArray, List.length_reverse]; exact hsz
  first
    | exact wpAny_bind (m := Builtin.Tuple.tupleExact _) (wpAny_newObj_type (wpAny_pure ⟨_, rfl, wpAny_pure h⟩) htake)
    | exact wpAny_bind (m := Builtin.Tuple.tupleExact _) (wpAny_newObj_type (wpAny_bind (wpAny_pure (wpAny_pure ⟨_, rfl, wpAny_pure h⟩))) htake)
    | exact wpAny_bind (wpAny_bind (m := Builtin.Tuple.tupleExact _) (wpAny_newObj_type (wpAny_pure (wpAny_pure ⟨_, rfl, wpAny_pure h⟩)) htake))
    | exact wpAny_bind (wpAny_bind (m := Builtin.Tuple.tupleExact _) (wpAny_newObj_type (wpAny_pure ⟨_, rfl, wpAny_pure h⟩) htake))
end
section
variable {X : Cx}
def tRevT (K : PySem.W.Frag) (te : TE) : TE := fun σ H Q => te σ H fun x H1 => ∃ a xs, x = .ref a ∧ SqT K H1 a xs ∧ ∀ p, H1 p = none → Q (.ref p) (upd H1 p (.tup xs.reverse))
theorem pe_revT {e : Expr} {te : TE} {k : Nat} {p1 p2 p3 pos : Pos} (he : PE X e te) : PE X (.Subscript e (.Slice none none (some (.UnaryOp .USub (.Constant (.int 1) k p1) p2)) p3) pos) (tRevT X.K te) := by
  refine ⟨fun pins s σ H Q I h => Subscript_ (thn (he.run pins s σ H _ I h) fun v s1 ⟨x, H1, I1, r1, a, xs, ex, hx, q⟩ => ?_)⟩
  subst ex
  cases r1
  have hst : PO X (some (.UnaryOp .USub (.Constant (.int 1) k p1) p2)) (tPart (tUn (rU fun i => .int (-i)) (tC (.int 1)))) := po_some (pe_un un_neg pe_int)
  refine wpAny_Slice (thn (po_none.run pins s1 σ H1 (fun o H2 => o = none ∧ H2 = H1) I1 ⟨rfl, rfl⟩) fun vl s2 ⟨l, H2, I2, pl, el, e2⟩ => ?_)
  subst el e2
  refine thn (po_none.run pins s2 σ H2 (fun o H3 => o = none ∧ H3 = H2) I2 ⟨rfl, rfl⟩) fun vu s3 ⟨u, H3, I3, pu, eu, e3⟩ => ?_
  subst eu e3
  refine thn (hst.run pins s3 σ H3 (fun o H4 => o = some (-1) ∧ H4 = H3) I3 ⟨1, rfl, -1, rfl, rfl, rfl⟩) fun vs s4 ⟨o, H4, I4, ps, eo, e4⟩ => ?_
  subst eo e4
  cases pl
  cases pu
  have I5 : Inv X pins σ H4 { s4 with heap := s4.heap.push { cls := .type "slice", data := .fields #[.none, .none, vs] } } := I4.kept (t' := s4.toks) fun b ob q => Heap.get?_push_of_some _ q
  obtain ⟨its, r, ht, hz⟩ := I5.tuple hx
  have hlen := r.length
  show wpAny (model X.prog X.w) X.A (subscriptTail e (.Slice none none (some (.UnaryOp .USub (.Constant (.int 1) k p1) p2)) p3) (.ref a) (.ref s4.heap.objs.size)) (EP X pins σ Q) X.xe { s4 with heap := s4.heap.push { cls := .type "slice", data := .fields #[.none, .none, vs] } }
  refine tail_any (ops := [.ref a, .ref s4.heap.objs.size]) ht.typeIs (PyProof.Rows.slot_tuple_getitem.lookup) ?_ (by with_unfolding_all rfl)
  refine getItem_tuple_back ht (Heap.IsSliceOf.new _ .none .none vs) ps ?_ (by omega)
  refine ⟨.ref _, _, I5.laid (t' := s4.toks) (o := .tup xs.reverse) (fun b ob q => Heap.get?_push_of_some _ q) (Nat.le_refl _) ?_, rfl, q _ (I5.hok.fresh (Nat.le_refl _))⟩
  exact ⟨by rw [List.length_reverse]; exact hz, _, r.reverse, IsTup.new _ _⟩
end
end Pr
/-! Expressions that make data and leave all that stood. -/
namespace Pr
open PySem PySem.Spec PyProof.Rows L2
section
variable (K : PySem.W.Frag) (N : Addr → Prop) (σ : L2.St) (H0 : Hp)
def Ev (t : TE) (P : PyData → Prop) : Prop := ∀ (H : Hp) (Q : VK), Same H0 H → (∀ v d H', Same H H' → Dq K N H' v d → P d → Q v H') → t σ H Q
def EvA (t : TA) (P : List PyData → Prop) : Prop := ∀ (H : Hp) (Q : List V → Hp → Prop), Same H0 H → (∀ vs ds H', Same H H' → DqAll K N H' vs ds → P ds → Q vs H') → t σ H Q
end
/-- n items of which P holds -/
def AllP (P : PyData → Prop) (n : Nat) (ds : List PyData) : Prop := ds.length = n ∧ ∀ d ∈ ds, P d
/-- a tuple of at most n items of which P holds -/
def TupP (P : PyData → Prop) (n : Nat) (d : PyData) : Prop := ∃ ds, d = .tuple ds ∧ ds.length ≤ n ∧ ∀ x ∈ ds, P x
def LstP (P : PyData → Prop) (n : Nat) (d : PyData) : Prop := ∃ ds, d = .list ds ∧ ds.length ≤ n ∧ ∀ x ∈ ds, P x
theorem AllP.nil {P : PyData → Prop} : AllP P 0 [] := ⟨rfl, fun _ h => by cases h⟩
theorem AllP.cons {P : PyData → Prop} {n : Nat} {d : PyData} {ds : List PyData} (h : P d) (r : AllP P n ds) : AllP P (n + 1) (d :: ds) :=
  ⟨by rw [List.length_cons, r.1], fun x hx => by
    rcases List.mem_cons.mp hx with rfl | hx
    · exact h
    · exact r.2 x hx⟩
theorem AllP.append {P : PyData → Prop} {n m : Nat} {ds es : List PyData} (h : AllP P n ds) (r : AllP P m es) : AllP P (n + m) (ds ++ es) :=
  ⟨by rw [List.length_append, h.1, r.1], fun x hx => (List.mem_append.mp hx).elim (h.2 x) (r.2 x)⟩
theorem AllP.mono {P P' : PyData → Prop} {n : Nat} {ds : List PyData} (h : AllP P n ds) (f : ∀ d, P d → P' d) : AllP P' n ds := ⟨h.1, fun d hd => f d (h.2 d hd)⟩
theorem TupP.mono {P P' : PyData → Prop} {n m : Nat} {d : PyData} (h : TupP P n d) (f : ∀ d, P d → P' d) (hm : n ≤ m) : TupP P' m d :=
  let ⟨ds, e, l, q⟩ := h; ⟨ds, e, Nat.le_trans l hm, fun x hx => f x (q x hx)⟩
section
variable {K : PySem.W.Frag} {N : Addr → Prop} {σ : L2.St} {H0 : Hp} {P P' : PyData → Prop} {t t1 t2 : TE} {ta : TA}
theorem Ev.weak (h : Ev K N σ H0 t P) (f : ∀ d, P d → P' d) : Ev K N σ H0 t P' := fun H Q s k => h H Q s fun v d H' s' hd hp => k v d H' s' hd (f d hp)
theorem EvA.weak {R R' : List PyData → Prop} (h : EvA K N σ H0 ta R) (f : ∀ d, R d → R' d) : EvA K N σ H0 ta R' := fun H Q s k => h H Q s fun v d H' s' hd hp => k v d H' s' hd (f d hp)
theorem ev_int {i : Int} (h : P (.int i)) : Ev K N σ H0 (tC (.int i)) P := fun H Q s k => k _ _ H (Same.refl _) (.int i) h
theorem ev_bl {b : Bool} (h : P (.bool b)) : Ev K N σ H0 (tC (.bl b)) P := fun H Q s k => k _ _ H (Same.refl _) (.bl b) h
theorem ev_non (h : P .none) : Ev K N σ H0 (tC .non) P := fun H Q s k => k _ _ H (Same.refl _) .non h
theorem ev_str {x : Str} (h : P (.str x)) : Ev K N σ H0 (tC (.str x)) P := fun H Q s k => k _ _ H (Same.refl _) (.str x) h
theorem ev_neg {i : Int} (h : P (.int (-i))) : Ev K N σ H0 (tUn (rU fun i => .int (-i)) (tC (.int i))) P := fun H Q s k => ⟨i, rfl, k _ _ H (Same.refl _) (.int (-i)) h⟩
theorem ev_pow {i j : Int} (hc : CPow i j) (h : P (.int (i ^ j.toNat))) : Ev K N σ H0 (tOp (rI CPow fun i j => .int (i ^ j.toNat)) (tC (.int i)) (tC (.int j))) P := fun H Q s k => ⟨i, j, rfl, rfl, hc, k _ _ H (Same.refl _) (.int _) h⟩
theorem ev_var (i : Nat) {v : V} {d : PyData} (hv : σ[i]? = some (some v)) (hd : Dq K N H0 v d) (h : P d) : Ev K N σ H0 (tVar i) P := fun H Q s k => ⟨v, hv, k _ _ H (Same.refl _) (Dq.same s d v hd) h⟩
theorem eva_nil {R : List PyData → Prop} (h : R []) : EvA K N σ H0 tNil R := fun H Q s k => k [] [] H (Same.refl _) .nil h
theorem eva_cons {n : Nat} (h : Ev K N σ H0 t P) (r : EvA K N σ H0 ta (AllP P n)) : EvA K N σ H0 (tCons t ta) (AllP P (n + 1)) := fun H Q s k =>
  h H _ s fun v d H1 s1 hd hp => r H1 _ (s.trans s1) fun vs ds H2 s2 hds hps => k (v :: vs) (d :: ds) H2 (s1.trans s2) (.cons (Dq.same s2 d v hd) hds) (hps.cons hp)
theorem eva_consE {d : PyData} {ds : List PyData} (h : Ev K N σ H0 t (· = d)) (r : EvA K N σ H0 ta (· = ds)) : EvA K N σ H0 (tCons t ta) (· = d :: ds) := fun H Q s k =>
  h H _ s fun v d' H1 s1 hd hp => r H1 _ (s.trans s1) fun vs ds' H2 s2 hds hps => k (v :: vs) (d' :: ds') H2 (s1.trans s2) (.cons (Dq.same s2 d' v hd) hds) (by rw [hp, hps])
theorem ev_tup {R : List PyData → Prop} (h : EvA K N σ H0 ta R) (hz : ∀ ds, R ds → ds.length ≤ 1000) (f : ∀ ds, R ds → P (.tuple ds)) : Ev K N σ H0 (tTup ta) P := fun H Q s k =>
  h H _ s fun vs ds H1 s1 hds hp => ⟨by rw [hds.length]; exact Nat.le_of_lt (small1000 (hz ds hp)), fun p np => k _ _ _ (s1.trans (same_new np)) (.tup (.inl (.inl upd_same)) (Dq.sameAll (same_new np) ds vs hds)) (f ds hp)⟩
theorem ev_lst {R : List PyData → Prop} (kN : ∀ x, N x → H0 x ≠ none) (h : EvA K N σ H0 ta R) (hz : ∀ ds, R ds → ds.length ≤ 1000) (f : ∀ ds, R ds → P (.list ds)) : Ev K N σ H0 (tLstG ta) P := fun H Q s k =>
  h H _ s fun vs ds H1 s1 hds hp => ⟨by rw [hds.length]; exact Nat.le_of_lt (small1000 (hz ds hp)), fun p np hsys => by
    have fr : ¬ N p := fun e => by
      cases hh : H0 p with
      | none => exact kN p e hh
      | some o => have := (s.trans s1) _ _ hh; rw [np] at this; cases this
    exact k _ _ _ (s1.trans (same_new np)) (.lst hsys fr upd_same (Dq.sameAll (same_new np) ds vs hds)) (f ds hp)⟩
theorem ev_dct0 (h : P (.dict [])) : Ev K N σ H0 tDNewK P := fun H Q s k p np => k _ _ _ (same_new np) (.dct0 upd_same) h
theorem ev_dct1 {x : Str} {i : Int} (h : P (.dict [(.str x, .int i)])) : Ev K N σ H0 (tDisp [(tC (.str x), tC (.int i))]) P := fun H Q s k p np =>
  ⟨upd_same, [(Sum.inr x, .int i)], rfl, (by show 1 ≤ 15; decide), by
    rw [upd_upd]
    exact k _ _ _ (same_new np) (.dct1 upd_same) h⟩
theorem ev_cat {n m : Nat} (h1 : Ev K N σ H0 t1 (TupP P n)) (h2 : Ev K N σ H0 t2 (TupP P m)) (hz : n + m ≤ 1000) (f : ∀ d, TupP P (n + m) d → P' d) : Ev K N σ H0 (tOp (rCatA K) t1 t2) P' := fun H Q s k =>
  h1 H _ s fun v1 d1 H1 s1 q1 ⟨ds, e1, l1, p1⟩ => h2 H1 _ (s.trans s1) fun v2 d2 H2 s2 q2 ⟨es, e2, l2, p2⟩ => by
    subst e1 e2
    cases q1 with
    | tup hs1 ha1 =>
      cases q2 with
      | tup hs2 ha2 =>
        have ha1' := Dq.sameAll s2 ds _ ha1
        have hcat := ha1'.append ha2
        have hP : ∀ x ∈ ds ++ es, P x := fun x hx => (List.mem_append.mp hx).elim (p1 x) (p2 x)
        have lz := hcat.length
        rw [List.length_append, List.length_append] at lz
        refine ⟨_, _, _, _, rfl, rfl, same_sqT s2 hs1, hs2, by rw [lz]; exact Nat.le_of_lt (small1000 (by omega)), fun e => ?_, fun _ e => ?_, fun _ _ p np => ?_⟩
        · subst e
          cases ha1'
          exact k _ _ _ (s1.trans s2) (.tup hs2 ha2) (f _ ⟨es, rfl, by omega, p2⟩)
        · subst e
          cases ha2
          exact k _ _ _ (s1.trans s2) (.tup (same_sqT s2 hs1) ha1') (f _ ⟨ds, rfl, by omega, p1⟩)
        · exact k _ _ _ ((s1.trans s2).trans (same_new np)) (.tup (.inl (.inl upd_same)) (Dq.sameAll (same_new np) _ _ hcat)) (f _ ⟨ds ++ es, rfl, by rw [List.length_append]; omega, hP⟩)
theorem ev_cut {n : Nat} {tl th : TO} {lo hi : Option Int} (h : Ev K N σ H0 t (TupP P n)) (hl : ∀ (H : Hp) (Q : Option Int → Hp → Prop), Q lo H → tl σ H Q) (hh : ∀ (H : Hp) (Q : Option Int → Hp → Prop), Q hi H → th σ H Q) (f : ∀ d, TupP P n d → P' d) :
    Ev K N σ H0 (tSl (rSlA K) t tl th) P' := fun H Q s k =>
  h H _ s fun v d H1 s1 q ⟨ds, e, l, p⟩ => by
    subst e
    refine hl _ _ (hh _ _ ?_)
    cases q with
    | @tup ad xs _ hs ha =>
      refine ⟨_, _, rfl, hs, fun _ => k _ _ _ s1 (.tup hs ha) (f _ ⟨ds, rfl, l, p⟩), fun _ p' np => k _ _ _ (s1.trans (same_new np)) (.tup (.inl (.inl upd_same)) (Dq.sameAll (same_new np) _ _ ((ha.drop _).take _))) (f _ ⟨_, rfl, ?_, fun x hx => p x (List.mem_of_mem_drop (List.mem_of_mem_take hx))⟩)⟩
      rw [List.length_take, List.length_drop]; omega
theorem ev_rev {n : Nat} (h : Ev K N σ H0 t (TupP P n)) (f : ∀ d, TupP P n d → P' d) : Ev K N σ H0 (tRevT K t) P' := fun H Q s k =>
  h H _ s fun v d H1 s1 q ⟨ds, e, l, p⟩ => by
    subst e
    cases q with
    | tup hs ha => exact ⟨_, _, rfl, hs, fun p' np => k _ _ _ (s1.trans (same_new np)) (.tup (.inl (.inl upd_same)) (Dq.sameAll (same_new np) _ _ ha.reverse)) (f _ ⟨ds.reverse, rfl, by rw [List.length_reverse]; exact l, fun x hx => p x (List.mem_reverse.mp hx)⟩)⟩
theorem ev_list {n : Nat} (kN : ∀ x, N x → H0 x ≠ none) (h : Ev K N σ H0 t (TupP P n)) (f : ∀ d, LstP P n d → P' d) : Ev K N σ H0 (tCB (rListG K) (tCons t tNil)) P' := fun H Q s k =>
  h H _ s fun v d H1 s1 q ⟨ds, e, l, p⟩ => by
    subst e
    cases q with
    | tup hs ha =>
      refine ⟨_, _, rfl, hs, fun p' np hsys => ?_⟩
      have fr : ¬ N p' := fun e => by
        cases hh : H0 p' with
        | none => exact kN p' e hh
        | some o => have := (s.trans s1) _ _ hh; rw [np] at this; cases this
      exact k _ _ _ (s1.trans (same_new np)) (.lst hsys fr upd_same (Dq.sameAll (same_new np) _ _ ha)) (f _ ⟨ds, rfl, l, p⟩)
theorem ev_rep {n : Nat} {k : Int} (h : Ev K N σ H0 t (fun d => TupP P n d ∧ d ≠ .tuple [])) (hk : 2 ≤ k) (hk2 : k ≤ 1000) (hn : n ≤ 1000) (f : ∀ d, TupP P (k.toNat * n) d → P' d) : Ev K N σ H0 (tOp (rRepT K) t (tC (.int k))) P' := fun H Q s kk =>
  h H _ s fun v d H1 s1 q ⟨⟨ds, e, l, p⟩, ne⟩ => by
    subst e
    cases q with
    | @tup ad xs _ hs ha =>
      have hlen := ha.length
      refine ⟨_, k, _, rfl, rfl, hs, fun e => ?_, hk, hk2, by omega, fun p' np => kk _ _ _ (s1.trans (same_new np)) (.tup (.inl (.inl upd_same)) (Dq.sameAll (same_new np) _ _ (ha.rep k.toNat))) (f _ ⟨_, rfl, ?_, fun x hx => ?_⟩)⟩
      · subst e
        cases ha
        exact ne rfl
      · rw [PyProof.Rows.lm_len_rep_flat]
        exact Nat.mul_le_mul_left _ l
      · obtain ⟨l', h1, h2⟩ := List.mem_flatten.mp hx
        rw [List.mem_replicate] at h1
        rw [h1.2] at h2
        exact p x h2
end
end Pr
/-! Buttons, ascending tuples of them and the errors of panels, over data of any kind. -/
namespace Pr
open PySem PySem.Spec PyProof.Rows L2
theorem list_neL (l : Addr) (items : Array Value) (n : Nat) (b : Addr) (items2 : Array Value) (n2 : Nat) (hc0 : (items.size != items2.size) = true) :
    Meets (Builtin.«list.__ne__» ⟨[.ref l, .ref b], []⟩) (fun _ R s => s.heap.get? l = some { cls := .type "list", dict := none, data := .seq items n, slots := #[] } ∧ s.heap.get? b = some { cls := .type "list", dict := none, data := .seq items2 n2, slots := #[] } ∧ R (.ok (.ret (Value.bool (CmpOp.NotEq == CmpOp.NotEq)))) { s with heap := s.heap, toks := s.toks }) :=
  .of_wp fun prog w A R s h => by
    obtain ⟨hp, g, d, tk, os⟩ := s; obtain ⟨hl, hb, h⟩ := h
    have f3 := AutoSeq1.sub_list_list
    wp_walk using AutoSeq1.wpAny_loadPart' hl, AutoSeq1.wpAny_loadPart' hb
    exact ⟨_, rfl, h⟩
section
variable {X : Cx}
/-- xs != [], two lists that stand -/
def rNeE : R2 := fun x y H Q => ∃ l b xs, x = .ref l ∧ y = .ref b ∧ H l = some (.lst xs) ∧ H b = some (.lst []) ∧ Q (.bl (!xs.isEmpty)) H
theorem op_neE (hu : X.A.units + 64 < cLine) : OpR X (compareOp .NotEq) rNeE := by
  intro pins s σ H x y v u Q I rx ry h
  obtain ⟨l, b, xs, rfl, rfl, hl, hb, q⟩ := h
  by_cases e : xs = []
  · subst e
    exact op_neD hu pins s σ H _ _ v u Q I rx ry ⟨.list [], .list [], .lst (.inl (.inl hl)) .nil, .lst (.inl (.inl hb)) .nil, rfl, rfl, q⟩
  · cases rx
    cases ry
    obtain ⟨_, its, n, rv, ho⟩ := I.hok _ _ hl
    obtain ⟨_, its2, n2, rv2, ho2⟩ := I.hok _ _ hb
    cases rv2
    have hlen := rv.length
    have hne : its.toArray.size ≠ 0 := by
      rw [List.size_toArray, ← hlen]
      exact fun z => e (List.eq_nil_of_length_eq_zero z)
    have q' : Q (.bl true) H := by
      have : xs.isEmpty = false := by
        cases xs with
        | nil => exact absurd rfl e
        | cons _ _ => rfl
      rw [this] at q; exact q
    exact richCompare_meets_room (op := .NotEq) ⟨_, ho, rfl⟩ ⟨_, ho2, rfl⟩ PySem.F.slot_list_ne PySem.F.entry_list_ne (PySem.F.args_list_ne_2 _ _) (list_neL l its.toArray n b ([] : List Value).toArray n2 (by simpa using hne))
      ⟨ho, ho2, show Value.bool (CmpOp.NotEq == CmpOp.NotEq) ≠ Value.notImplemented ∧ _ from ⟨(fun z => nomatch z), .bl true, H, I, rfl, q'⟩⟩ (by omega)
end
/-! ### kinds -/
def isB : PyData → Bool
  | .bool _ => true
  | _ => false
theorem isB_kit {K : PySem.W.Frag} (d : PyData) : PySem.W.kitOne K (.type (tyD d)) (.type "bool") = some (isB d) := by
  cases d with
  | none => exact kit_ty (show kitB "NoneType" "bool" = some false by decide +kernel)
  | bool _ => exact kit_ty (show kitB "bool" "bool" = some true by decide +kernel)
  | int _ => exact kit_ty (show kitB "int" "bool" = some false by decide +kernel)
  | str _ => exact kit_ty (show kitB "str" "bool" = some false by decide +kernel)
  | list _ => exact kit_ty (show kitB "list" "bool" = some false by decide +kernel)
  | tuple _ => exact kit_ty (show kitB "tuple" "bool" = some false by decide +kernel)
  | dict _ => exact kit_ty (show kitB "dict" "bool" = some false by decide +kernel)
def isI : PyData → Bool
  | .bool _ => true
  | .int _ => true
  | _ => false
theorem isI_kit {K : PySem.W.Frag} (d : PyData) : PySem.W.kitOne K (.type (tyD d)) (.type "int") = some (isI d) := by
  cases d with
  | none => exact kit_ty (show kitB "NoneType" "int" = some false by decide +kernel)
  | bool _ => exact kit_ty (show kitB "bool" "int" = some true by decide +kernel)
  | int _ => exact kit_ty (show kitB "int" "int" = some true by decide +kernel)
  | str _ => exact kit_ty (show kitB "str" "int" = some false by decide +kernel)
  | list _ => exact kit_ty (show kitB "list" "int" = some false by decide +kernel)
  | tuple _ => exact kit_ty (show kitB "tuple" "int" = some false by decide +kernel)
  | dict _ => exact kit_ty (show kitB "dict" "int" = some false by decide +kernel)
def isT : PyData → Bool
  | .tuple _ => true
  | _ => false
theorem isT_kit {K : PySem.W.Frag} (d : PyData) : PySem.W.kitOne K (.type (tyD d)) (.type "tuple") = some (isT d) := by
  cases d with
  | none => exact kit_ty (show kitB "NoneType" "tuple" = some false by decide +kernel)
  | bool _ => exact kit_ty (show kitB "bool" "tuple" = some false by decide +kernel)
  | int _ => exact kit_ty (show kitB "int" "tuple" = some false by decide +kernel)
  | str _ => exact kit_ty (show kitB "str" "tuple" = some false by decide +kernel)
  | list _ => exact kit_ty (show kitB "list" "tuple" = some false by decide +kernel)
  | tuple _ => exact kit_ty (show kitB "tuple" "tuple" = some true by decide +kernel)
  | dict _ => exact kit_ty (show kitB "dict" "tuple" = some false by decide +kernel)
/-! ### the mathematics -/
def isBtn (n : Int) : PyData → Bool
  | .int i => decide (0 ≤ i) && decide (i < n)
  | _ => false
def ascFrom (n : Int) : Int → List PyData → Bool
  | _, [] => true
  | b, .int i :: r => decide (0 ≤ i) && decide (i < n) && decide (b < i) && ascFrom n i r
  | _, _ :: _ => false
def btnT (n : Int) : PyData → Bool
  | .tuple ds => ascFrom n (-1) ds
  | _ => false
def dErr (k : PyData) (x : Str) : PyData := .tuple [k, .str x]
def hasInt (k : Int) : PyData → Bool
  | .tuple ds => ds.any fun d => match d with | .int i => decide (i = k) | _ => false
  | _ => false
def errFrom (n : Int) : Nat → List PyData → PyData
  | _, [] => .none
  | k, d :: r => if btnT n d then (if hasInt (k : Int) d then dErr (.int (k : Int)) "itself" else errFrom n (k + 1) r) else dErr (.int (k : Int)) "list"
def errD : PyData → PyData
  | .tuple ds => if 1 ≤ ds.length ∧ ds.length ≤ 10 then errFrom (ds.length : Int) 0 ds else dErr .none "panel"
  | _ => dErr .none "panel"
theorem ascFrom_ints {n : Int} : ∀ {b : Int} {ds : List PyData}, ascFrom n b ds = true → ∃ ns : List Int, ds = ns.map PyData.int ∧ ns.Pairwise (· < ·) ∧ ∀ x ∈ ns, b < x ∧ 0 ≤ x ∧ x < n
  | b, [], _ => ⟨[], rfl, List.Pairwise.nil, fun _ h => by cases h⟩
  | b, d :: r, h => by
    cases d with
    | int i =>
      simp only [ascFrom, Bool.and_eq_true, decide_eq_true_eq] at h
      obtain ⟨ns, rfl, h2, h3⟩ := ascFrom_ints h.2
      refine ⟨i :: ns, rfl, List.pairwise_cons.mpr ⟨fun x hx => (h3 x hx).1, h2⟩, fun x hx => ?_⟩
      rcases List.mem_cons.mp hx with rfl | hx
      · exact ⟨h.1.2, h.1.1⟩
      · have := h3 x hx; omega
    | none => simp [ascFrom] at h
    | bool _ => simp [ascFrom] at h
    | str _ => simp [ascFrom] at h
    | list _ => simp [ascFrom] at h
    | tuple _ => simp [ascFrom] at h
    | dict _ => simp [ascFrom] at h
theorem ascFrom_of {n : Int} : ∀ {b : Int} {ns : List Int}, ns.Pairwise (· < ·) → (∀ x ∈ ns, b < x ∧ 0 ≤ x ∧ x < n) → ascFrom n b (ns.map PyData.int) = true
  | b, [], _, _ => rfl
  | b, i :: r, h, h2 => by
    rw [List.pairwise_cons] at h
    have hi := h2 i List.mem_cons_self
    simp only [List.map_cons, ascFrom, Bool.and_eq_true, decide_eq_true_eq]
    exact ⟨⟨⟨hi.2.1, hi.2.2⟩, hi.1⟩, ascFrom_of h.2 fun x hx => ⟨h.1 x hx, (h2 x (List.mem_cons_of_mem _ hx)).2⟩⟩
theorem hasInt_ints {k : Int} (ns : List Int) : hasInt k (.tuple (ns.map PyData.int)) = decide (k ∈ ns) := by
  show (ns.map PyData.int).any _ = _
  rw [List.any_map, Bool.eq_iff_iff, List.any_eq_true, decide_eq_true_eq]
  constructor
  · rintro ⟨x, hx, e⟩
    have e' : x = k := by simpa using e
    rw [← e']; exact hx
  · intro h
    exact ⟨k, h, by simp⟩
theorem dqAll_of_ints {K : PySem.W.Frag} {N : Addr → Prop} {H : Hp} : ∀ {xs : List V} {ns : List Int}, DqAll K N H xs (ns.map PyData.int) → xs = ns.map V.int
  | _, [], h => by cases h; rfl
  | _, x :: r, h => by
    cases h with
    | cons h1 h2 => cases h1; rw [List.map_cons, dqAll_of_ints h2]
theorem errFrom_drop {n : Int} {ds : List PyData} {i : Nat} {d : PyData} (h : ds[i]? = some d) : errFrom n i (ds.drop i) = if btnT n d then (if hasInt (i : Int) d then dErr (.int (i : Int)) "itself" else errFrom n (i + 1) (ds.drop (i + 1))) else dErr (.int (i : Int)) "list" := by
  have hi := (List.getElem?_eq_some_iff.mp h).1
  have : ds.drop i = d :: ds.drop (i + 1) := by
    rw [List.drop_eq_getElem_cons hi, (List.getElem?_eq_some_iff.mp h).2]
  rw [this]; rfl
theorem eqv_intsL : ∀ (ns ms : List Int), PyData.eqvAll (ns.map PyData.int) (ms.map PyData.int) = decide (ns = ms)
  | [], [] => by simp [PyData.eqvAll]
  | [], _ :: _ => by simp [PyData.eqvAll]
  | _ :: _, [] => by simp [PyData.eqvAll]
  | x :: r, y :: t => by
    simp only [List.map_cons, PyData.eqvAll, PyData.eqv, eqv_intsL r t]
    by_cases h : x = y <;> by_cases h2 : r = t <;> simp [h, h2]
theorem canLay_ints : ∀ ns : List Int, PyData.canLayAll0 (ns.map PyData.int) = true ∧ PyData.depthAll (ns.map PyData.int) = 0
  | [] => ⟨by simp [PyData.canLayAll0], by simp [PyData.depthAll]⟩
  | x :: r => by
    obtain ⟨h1, h2⟩ := canLay_ints r
    exact ⟨by simp [PyData.canLayAll0, PyData.canLay0, h1], by simp [PyData.depthAll, PyData.depth, h2]⟩
theorem shaped_ints (ns : List Int) : SeqAt.shaped (.list (ns.map PyData.int)) = true := by
  obtain ⟨h1, h2⟩ := canLay_ints ns
  simp [SeqAt.shaped, PyData.canLay0, PyData.depth, h1, h2]
end Pr
/-! Small data of any kind. -/
namespace Pr
open PySem PySem.Spec PyProof.Rows L2
def tlen : PyData → Bool
  | .tuple es => decide (es.length ≤ 60)
  | _ => true
def smlB : PyData → Bool
  | .tuple ds => ds.all tlen
  | _ => true
def lowB (d : PyData) : Bool := d.showable && decide (d.depth ≤ 3) && decide (d.shown.length ≤ 60) && tlen d && smlB d
/-- a small thing: at most three deep, at most sixty signs -/
def Low (d : PyData) : Prop := lowB d = true
theorem Low.shq {d : PyData} (h : Low d) : Shq 3 60 d := by
  simp only [Low, lowB, Bool.and_eq_true, decide_eq_true_eq] at h
  exact ⟨h.1.1.1.1, h.1.1.1.2, h.1.1.2⟩
theorem Low.len {d : PyData} (h : Low d) : tlen d = true := by
  simp only [Low, lowB, Bool.and_eq_true, decide_eq_true_eq] at h
  exact h.1.2
theorem Low.sml {d : PyData} (h : Low d) : smlB d = true := by
  simp only [Low, lowB, Bool.and_eq_true, decide_eq_true_eq] at h
  exact h.2
theorem low_int {i : Int} (h0 : 0 ≤ i) (h : i < 100) : Low (.int i) := by
  have s := Shw.int (k := 2) h0 (by decide) (by decide) h
  simp only [Low, lowB, Bool.and_eq_true, decide_eq_true_eq]
  exact ⟨⟨⟨⟨s.sh, Nat.le_trans s.dp (by decide)⟩, Nat.le_trans s.ln (by decide)⟩, rfl⟩, rfl⟩
theorem low_bool (b : Bool) : Low (.bool b) := by cases b <;> (show lowB _ = true; decide +kernel)
/-- what may stand in a panel's place: a small thing, or a tuple or list of at most sixty small ones -/
def Mid (d : PyData) : Prop := Shq 4 4000 d ∧ tlen d = true
theorem Low.mid {d : PyData} (h : Low d) : Mid d := ⟨h.shq.mono (by decide) (by decide), h.len⟩
theorem tup_mid {d : PyData} (h : TupP Low 60 d) : Mid d := by
  obtain ⟨ds, rfl, l, p⟩ := h
  exact ⟨(Shq.tuple (fun x hx => (p x hx).shq) l).mono (by decide) (by decide), decide_eq_true l⟩
theorem lst_mid {d : PyData} (h : LstP Low 60 d) : Mid d := by
  obtain ⟨ds, rfl, l, p⟩ := h
  exact ⟨(Shq.list (fun x hx => (p x hx).shq) l).mono (by decide) (by decide), rfl⟩
/-- values of the laws -/
def Top (d : PyData) : Prop := Shq 5 2000000 d ∧ smlB d = true
theorem tup_top {d : PyData} (h : TupP Mid 200 d) : Top d := by
  obtain ⟨ds, rfl, l, p⟩ := h
  exact ⟨(Shq.tuple (fun x hx => (p x hx).1) l).mono (by decide) (by decide), List.all_eq_true.mpr fun x hx => (p x hx).2⟩
theorem lst_top {d : PyData} (h : LstP Mid 200 d) : Top d := by
  obtain ⟨ds, rfl, l, p⟩ := h
  exact ⟨(Shq.list (fun x hx => (p x hx).1) l).mono (by decide) (by decide), rfl⟩
theorem Low.top {d : PyData} (h : Low d) : Top d := ⟨h.shq.mono (by decide) (by decide), h.sml⟩
theorem smlB_spec {d : PyData} (h : smlB d = true) : ∀ ds, d = .tuple ds → ∀ x ∈ ds, ∀ es, x = .tuple es → es.length ≤ 60 := by
  intro ds e x hx es e'
  subst e e'
  exact of_decide_eq_true (List.all_eq_true.mp h _ hx)
end Pr
/-! Caught errors of own classes, with fields: isinstance; and more of data. -/
namespace Pr
open PySem PySem.Spec PyProof.Rows L2
/-- the exception that the suite holds, of the class D, its dict d -/
def HeldX (D : Addr) (cls : Value) (d : Option Addr) (H : Hp) : Prop := cls = .ref D ∧ ∃ dd fs, d = some dd ∧ H dd = some (.xd fs)
def rIsX (K : PySem.W.Frag) (D a : Addr) (cls : Value) (d : Option Addr) : List V → Hp → VK → Prop := fun xs H Q => HeldX D cls d H ∧ ∃ (c : V) (u : Value) (b : Bool), xs = [.ref a, c] ∧ ClsV c u ∧ PySem.W.kitOne K (.ref D) u = some b ∧ Q (.bl b) H
def rIsXT (K : PySem.W.Frag) (D a : Addr) (cls : Value) (d : Option Addr) : List V → Hp → VK → Prop := fun xs H Q => HeldX D cls d H ∧ ∃ (tp : Addr) (cs : List V) (us : List Value) (b : Bool), xs = [.ref a, .ref tp] ∧ H tp = some (.tup cs) ∧ Paired ClsV cs us ∧ PySem.W.kitAny K (.ref D) us = some b ∧ Q (.bl b) H
section
variable {X : Cx} {a D : Addr} {oe : Obj} {cls : Value} {d : Option Addr} {pn pins : List (Addr × Obj)} {s : Shared} {σ : L2.St} {H : Hp}
theorem held_inst (hz : Zc cls d oe) (hf : ∃ vs, oe.data = .fields vs) (I : Inv (X.suite a ((a, oe) :: pn)) pins σ H s) (h : HeldX D cls d H) : ∃ od : Obj, PySem.W.InstAt s.heap a oe D (some od) := by
  obtain ⟨rfl, dd, fs, rfl, ea⟩ := h
  obtain ⟨ha, _⟩ := I.pin (a, oe) (List.mem_append_left _ List.mem_cons_self)
  obtain ⟨vs, hd⟩ := hf
  have hx : ObjOk X.prog X.w H s.heap dd (.xd fs) := I.hok dd _ ea
  obtain ⟨mA, hns, hr⟩ := hx
  obtain ⟨od, ho, hl⟩ := lookIn_ns hns
  exact ⟨od, ha, hz.1, by unfold PySem.W.notCls; rw [hd] <;> rfl, by rw [hz.2]; exact ho⟩
theorem kitx_of_exc {x : Addr} {ox : Obj} {od : Option Obj} {K : PySem.W.Frag} (C : ExcC K D) : PySem.W.KitX K (.ref x) (.ref D) (fun h => PySem.W.InstAt h x ox D od) :=
  PySem.W.kitx_exc (by obtain ⟨cd, hc, _⟩ := PySem.W.any_some C.hd; rw [hc]; rfl) C.hg C.hk C.hs C.ha C.hn C.ht C.hm
theorem call_isX (C : ExcC X.K D) (hz : Zc cls d oe) (hf : ∃ vs, oe.data = .fields vs) : CallR (X.suite a ((a, oe) :: pn)) (.builtin "isinstance") (rIsX X.K D a cls d) := by
  intro pins s σ H xs us Q I r h
  obtain ⟨hh, c, u, b, rfl, k, e, q⟩ := h
  obtain ⟨u1, u2, rfl, r1, r2⟩ := vals2 r
  cases (show u1 = Value.ref a from r1)
  have e2 := k.eq r2
  subst e2
  obtain ⟨od, J⟩ := held_inst hz hf I hh
  exact PySem.W.kia_one (kitx_of_exc C) I.kIn J e (fun z => nomatch z) fun tk => ⟨.bl b, H, I.tok tk, rfl, q⟩
theorem call_isXT (C : ExcC X.K D) (hz : Zc cls d oe) (hf : ∃ vs, oe.data = .fields vs) : CallR (X.suite a ((a, oe) :: pn)) (.builtin "isinstance") (rIsXT X.K D a cls d) := by
  intro pins s σ H xs us Q I r h
  obtain ⟨hh, tp, cs, ws, b, rfl, hT, k, e, q⟩ := h
  obtain ⟨u1, u2, rfl, r1, r2⟩ := vals2 r
  cases (show u1 = Value.ref a from r1)
  cases (show u2 = Value.ref tp from r2)
  obtain ⟨od, J⟩ := held_inst hz hf I hh
  obtain ⟨_, its, rv, o, h1, h2, n, h3⟩ := (show ObjOk X.prog X.w H s.heap tp (.tup cs) from I.hok tp _ hT)
  have e3 := ClsV.all k rv
  subst e3
  obtain ⟨oc, od', dt, sl⟩ := o
  simp only at h2 h3
  subst h2 h3
  exact PySem.W.kia_tup (kitx_of_exc C) I.kIn J h1 e (fun z => nomatch z) fun tk => ⟨.bl b, H, I.tok tk, rfl, q⟩
end
/-! ### more of data -/
section
variable {K : PySem.W.Frag} {N N' : Addr → Prop} {H : Hp}
mutual
theorem Dq.weak (hN : ∀ x, N' x → N x) : ∀ (d : PyData) (v : V), Dq K N H v d → Dq K N' H v d
  | .none, _, h => by cases h; exact .non
  | .bool b, _, h => by cases h; exact .bl b
  | .int i, _, h => by cases h; exact .int i
  | .str x, _, h => by cases h; exact .str x
  | .list ds, _, h => by
    cases h with
    | lst h1 h2 e q => exact .lst h1 (fun z => h2 (hN _ z)) e (Dq.weakAll hN ds _ q)
  | .tuple ds, _, h => by
    cases h with
    | tup e q => exact .tup e (Dq.weakAll hN ds _ q)
  | .dict kvs, _, h => by
    cases h with
    | dct0 e => exact .dct0 e
    | dct1 e => exact .dct1 e
theorem Dq.weakAll (hN : ∀ x, N' x → N x) : ∀ (ds : List PyData) (vs : List V), DqAll K N H vs ds → DqAll K N' H vs ds
  | [], _, h => by cases h; exact .nil
  | d :: ds, _, h => by
    cases h with
    | cons r t => exact .cons (Dq.weak hN d _ r) (Dq.weakAll hN ds _ t)
end
mutual
theorem Dq.toDp : ∀ (d : PyData) (v : V), d.hasDict = false → Dq K N H v d → Dp K H v d
  | .none, _, _, h => by cases h; exact .non
  | .bool b, _, _, h => by cases h; exact .bl b
  | .int i, _, _, h => by cases h; exact .int i
  | .str x, _, _, h => by cases h; exact .str x
  | .list ds, _, n, h => by
    cases h with
    | lst h1 h2 e q => exact .lst (.inl (.inl e)) (Dq.toDpAll ds _ (by simpa only [PyData.hasDict] using n) q)
  | .tuple ds, _, n, h => by
    cases h with
    | tup e q => exact .tup e (Dq.toDpAll ds _ (by simpa only [PyData.hasDict] using n) q)
  | .dict kvs, _, n, h => by simp [PyData.hasDict] at n
theorem Dq.toDpAll : ∀ (ds : List PyData) (vs : List V), PyData.hasDictAll ds = false → DqAll K N H vs ds → DpAll K H vs ds
  | [], _, _, h => by cases h; exact .nil
  | d :: ds, _, n, h => by
    cases h with
    | cons r t =>
      simp only [PyData.hasDictAll, Bool.or_eq_false_iff] at n
      exact .cons (Dq.toDp d _ n.1 r) (Dq.toDpAll ds _ n.2 t)
end
end
end Pr
/-! Rows of presses over data of any kind. -/
namespace Pr
open PySem PySem.Spec PyProof.Rows L2
def badAt (n : Int) : Nat → List PyData → Option Nat
  | _, [] => none
  | k, d :: r => if isBtn n d then badAt n (k + 1) r else some k
/-- None: a row; else the index of the error -/
def rowBad (n : Int) : PyData → Option PyData
  | .tuple ds => if ds.length ≤ 60 then (badAt n 0 ds).map (fun k : Nat => .int (k : Int)) else some .none
  | _ => some .none
def dToI : PyData → Int
  | .int i => i
  | _ => 0
def rowI : PyData → List Int
  | .tuple ds => ds.map dToI
  | _ => []
def idxV : PyData → V
  | .int i => .int i
  | _ => .non
theorem badAt_drop {n : Int} {ds : List PyData} {i : Nat} {d : PyData} (h : ds[i]? = some d) : badAt n i (ds.drop i) = if isBtn n d then badAt n (i + 1) (ds.drop (i + 1)) else some i := by
  have hi := (List.getElem?_eq_some_iff.mp h).1
  rw [List.drop_eq_getElem_cons hi, (List.getElem?_eq_some_iff.mp h).2]
  rfl
theorem badAt_none {n : Int} : ∀ {ds : List PyData} {k : Nat}, badAt n k ds = none → ∃ ns : List Int, ds = ns.map PyData.int ∧ ∀ x ∈ ns, 0 ≤ x ∧ x < n
  | [], _, _ => ⟨[], rfl, fun _ h => by cases h⟩
  | d :: r, k, h => by
    unfold badAt at h
    split at h
    · rename_i hb
      obtain ⟨ns, rfl, hn⟩ := badAt_none h
      obtain ⟨j, rfl⟩ : ∃ j, d = .int j := by
        cases d <;> first | exact ⟨_, rfl⟩ | (simp [isBtn] at hb)
      have hj : (decide (0 ≤ j) && decide (j < n)) = true := hb
      rw [Bool.and_eq_true, decide_eq_true_eq, decide_eq_true_eq] at hj
      exact ⟨j :: ns, rfl, fun x hx => (List.mem_cons.mp hx).elim (fun e => by rw [e]; exact hj) (hn x)⟩
    · cases h
theorem badAt_some {n : Int} : ∀ {ds : List PyData} {k j : Nat}, badAt n k ds = some j → k ≤ j ∧ j < k + ds.length
  | [], _, _, h => by cases h
  | d :: r, k, j, h => by
    unfold badAt at h
    rw [List.length_cons]
    split at h
    · have := badAt_some h
      omega
    · cases h
      omega
theorem rowI_ints (ns : List Int) : rowI (.tuple (ns.map PyData.int)) = ns := by
  show (ns.map PyData.int).map dToI = ns
  rw [List.map_map]
  exact (List.map_congr_left (g := id) fun _ _ => rfl).trans (List.map_id _)
theorem rowBad_none {n : Int} {d : PyData} (h : rowBad n d = none) : ∃ ns : List Int, d = .tuple (ns.map PyData.int) ∧ ns.length ≤ 60 ∧ (∀ x ∈ ns, 0 ≤ x ∧ x < n) ∧ rowI d = ns := by
  cases d with
  | tuple ds =>
    by_cases h60 : ds.length ≤ 60
    · have h' : (badAt n 0 ds).map (fun k : Nat => PyData.int (k : Int)) = none := by
        have e : rowBad n (.tuple ds) = (badAt n 0 ds).map (fun k : Nat => PyData.int (k : Int)) := if_pos h60
        rw [← e]; exact h
      obtain ⟨ns, rfl, hn⟩ := badAt_none (Option.map_eq_none_iff.mp h')
      exact ⟨ns, rfl, by rw [List.length_map] at h60; exact h60, hn, rowI_ints ns⟩
    · have e : rowBad n (.tuple ds) = some .none := if_neg h60
      rw [e] at h; cases h
  | _ => cases h
/-- the index in an error of a row -/
theorem rowBad_some {n : Int} {d e : PyData} (h : rowBad n d = some e) : e = .none ∨ ∃ i : Int, e = .int i ∧ 0 ≤ i ∧ i < 60 := by
  cases d with
  | tuple ds =>
    by_cases h60 : ds.length ≤ 60
    · have e' : rowBad n (.tuple ds) = (badAt n 0 ds).map (fun k : Nat => PyData.int (k : Int)) := if_pos h60
      rw [e'] at h
      obtain ⟨k, hk, rfl⟩ := Option.map_eq_some_iff.mp h
      have := badAt_some hk
      exact .inr ⟨_, rfl, by omega, by omega⟩
    · have e' : rowBad n (.tuple ds) = some .none := if_neg h60
      rw [e'] at h
      exact .inl (Option.some.inj h).symm
  | _ => exact .inl (Option.some.inj h).symm
end Pr
namespace K03
open PySem PySem.Spec PyProof.Rows L2 Pr
def topS (i : Nat) : Stmt := PySem.Challenge.pw_pressrelease_k03_rows_run.main.body.getD i (.Pass ⟨0, 0, 0, 0⟩)
abbrev sBtn : Stmt := topS 7
abbrev sPress : Stmt := topS 8
abbrev sChk : Stmt := topS 9
abbrev sRun : Stmt := topS 10
abbrev sDeck : Stmt := topS 12
abbrev sDraw : Stmt := topS 13
abbrev sSame : Stmt := topS 14
abbrev sIsNum : Stmt := topS 15
abbrev sPanel : Stmt := topS 16
abbrev sState : Stmt := topS 17
abbrev sRow : Stmt := topS 18
abbrev sPressed : Stmt := topS 19
abbrev sOdd : Stmt := topS 20
abbrev sTwin : Stmt := topS 21
abbrev sDue : Stmt := topS 22
abbrev sTold : Stmt := topS 23
abbrev sLaw : Stmt := topS 24
theorem scDeck : FnScope ["_law_script", "_law_cell"] ["_law_script"] (defScope sDeck) := ⟨rfl, rfl, rfl, by decide +kernel, rfl, by decide +kernel, by decide +kernel⟩
theorem scDraw : FnScope ["_law_deck_here", "_law_limit", "_law_cell", "_law_index"] ["_law_deck_here", "_law_limit"] (defScope sDraw) := ⟨rfl, rfl, rfl, by decide +kernel, rfl, by decide +kernel, by decide +kernel⟩
theorem scSame : FnScope ["_law_value", "_law_due_here"] ["_law_value", "_law_due_here"] (defScope sSame) := ⟨rfl, rfl, rfl, by decide +kernel, rfl, by decide +kernel, by decide +kernel⟩
theorem cut_ints (ns : List Int) (lo hi : Option Int) : ∃ ms : List Int, cutV (ns.map V.int) lo hi = ms.map V.int ∧ ms.length ≤ ns.length := by
  refine ⟨(ns.drop (HT.sIx ns.length 0 lo)).take (HT.sIx ns.length ns.length hi - HT.sIx ns.length 0 lo), ?_, ?_⟩
  · unfold cutV
    rw [List.length_map, List.map_take, List.map_drop]
  · rw [List.length_take, List.length_drop]; omega
theorem tyes {σ : L2.St} {H : Hp} {Q : Bool → Hp → Prop} (h : Q true H) : tYes σ H Q := h
theorem gen_heap {X : Hp} {R : Hp → Prop} (C : Hp → Prop) (hX : C X) (h : ∀ H', C H' → R H') : R X := h X hX
section
variable {P : Program} {w : World} {K : PySem.W.Frag} {mg : Str → Option Value} {base : Heap}
def spDeck (K : PySem.W.Frag) : Sp := fun vs H Q _ => ∃ (s : Addr) (ns : List Int), vs = [.ref s] ∧ SqL K H s (ns.map V.int) ∧ ns.length ≤ 63 ∧
  ∀ H' a c, Same H H' → Deck H' a c 1000000 → Q (.ref a) H'
theorem ok_deck {f : Addr} {fd : FuncData} {k : Nat} (F : Fun K "_law_deck" "_law_deck" sDeck f fd) (ma : mg "abs" = none) : FnOk P w K mg base CX0 (k + 1) f fd ["_law_script"] (spDeck K) := by
  refine F.ok scDeck (fun vs H Q E h => ?_) (fun cdv A outer s H vs Q E hr h => ?_)
  · obtain ⟨s, ns, rfl, _⟩ := h
    rfl
  · obtain ⟨sa, ns, rfl, hS, hlen, q⟩ := h
    refine ⟨_, pss_one (ps_ret (pe_lst (pa_cons
      (pe_lc (own := [("_law_cell", 1)]) (g := gName 1) (tt := tYes) rfl scDeck.nd (pi_list (pe_slice sl_list (pv 0) po_none (po_some pe_int)))
        (blkOk_by (own := [("_law_cell", 1)]) (N := ["_law_script", "_law_cell"]) (sc := defScope sDeck) (by decide +kernel))
        (fun _ _ _ _ _ => pg_name (i := 1) scDeck.nd rfl (Or.inl rfl)) (fun _ _ _ _ _ => pts_nil)
        (fun _ _ _ _ _ => pe_callB call_abs (by rfl) ma (by decide +kernel) (pa_cons (pv 1) pa_nil)))
      (pa_cons pe_int pa_nil)))), ?_⟩
    refine ⟨.ref sa, rfl, 63, rfl, sa, ns.map V.int, rfl, hS, fun l nl => ?_⟩
    obtain ⟨ms, em, lm⟩ := cut_ints ns none (some 63)
    rw [em]
    have s1 : Same H (upd H l (.lst (ms.map V.int))) := same_new nl
    refine ⟨l, rfl, ⟨_, .inl (.inl upd_same)⟩, fun D nD => ?_⟩
    refine lc_list (xs := ms.map V.int) (fun i H3 => Same (upd H l (.lst (ms.map V.int))) H3 ∧ ∃ cells : List Int, cells.length = i ∧ H3 D = some (.lst (cells.map V.int)))
      ⟨same_new nD, [], rfl, upd_same⟩ (fun i H3 _ hP => hP.1.seq (.inl (.inl upd_same))) (fun i x H3 hx hP => ?_) (fun H3 hP => ?_)
    · obtain ⟨sm, cells, hc, eD⟩ := hP
      rw [List.getElem?_map] at hx
      obtain ⟨z, hz, rfl⟩ : ∃ z, ms[i]? = some z ∧ x = V.int z := by
        cases e : ms[i]? with
        | none => rw [e] at hx; cases hx
        | some z => rw [e] at hx; exact ⟨z, rfl, (Option.some.inj hx).symm⟩
      have hi : i < ms.length := (List.getElem?_eq_some_iff.mp hz).1
      refine ⟨rfl, tyes (iteT ⟨_, rfl, _, rfl, cells.map V.int, eD, ?_, ?_, cells ++ [if z < 0 then -z else z], ?_, ?_⟩)⟩
      · rw [List.length_map]; exact small1000 (by omega)
      · intro b o e
        rw [upd_ne (ne_of_none e nD)]
        exact sm _ _ e
      · rw [List.length_append, hc]; rfl
      · rw [upd_same, List.map_append]; rfl
    · obtain ⟨sm, cells, hc, eD⟩ := hP
      rw [List.length_map] at hc
      refine ⟨by show 2 ≤ sizeLine; decide, fun p np => ?_⟩
      have nDp : D ≠ p := ne_of_none eD np
      refine q _ p D ((s1.trans sm).trans (same_new np)) ⟨cells, 0, upd_same, ?_, Ne.symm nDp, by omega, by omega⟩
      rw [upd_ne nDp]; exact eD

def spDraw : Sp := fun vs H Q _ => ∃ (a c : Addr) (m : Nat) (lim : Int), vs = [.ref a, .int lim] ∧ Deck H a c (m + 1) ∧ 0 < lim ∧ lim < 1000000 ∧
  ∀ H' r, But a c H H' → Deck H' a c m → 0 ≤ r → r < lim → Q (.int r) H'
theorem ok_draw {f : Addr} {fd : FuncData} {k : Nat} (F : Fun K "_law_draw" "_law_draw" sDraw f fd) (ml : mg "len" = none) : FnOk P w K mg base CX0 (k + 1) f fd ["_law_deck_here", "_law_limit"] spDraw := by
  refine F.ok scDraw (fun vs H Q E h => ?_) (fun cdv A outer s H vs Q E hr h => ?_)
  · obtain ⟨a, c, m, lim, rfl, _⟩ := h
    rfl
  · obtain ⟨a, c, m, lim, rfl, hD, l0, l1, q⟩ := h
    refine ⟨_, pss_cons (ps_asg (pe_op op_add (pe_ix ix_list (pv 0) pe_int (fun _ _ => rfl)) pe_int) (pg_sub (pv 0) pe_int set_list))
      (pss_cons (ps_asg (pe_tup (pa_cons pe_int (pa_cons (pe_un un_neg pe_int) pa_nil))) (pg_tup rfl (pgs_cons (pg_name (i := 2) scDraw.nd rfl (.inl rfl)) (pgs_cons (pg_name (i := 3) scDraw.nd rfl (.inl rfl)) pgs_nil))))
      (pss_cons (ps_if (pt_cmpR op_gt (pe_callB call_len_seq (by rfl) ml PySem.boot_len (pa_cons (pe_ix ix_list (pv 0) pe_int (fun _ _ => rfl)) pa_nil)) pe_int (nomark _))
        (pss_cons (ps_set (i := 3) scDraw.nd rfl (.inl rfl) (pe_op op_mod (pe_ix ix_list (pv 0) pe_int (fun _ _ => rfl)) (pe_callB call_len_seq (by rfl) ml PySem.boot_len (pa_cons (pe_ix ix_list (pv 0) pe_int (fun _ _ => rfl)) pa_nil))))
          (pss_one (ps_set (i := 2) scDraw.nd rfl (.inl rfl) (pe_ix ix_list (pe_ix ix_list (pv 0) pe_int (fun _ _ => rfl)) (pv 3) (fun _ _ => rfl)))))
        pss_nil)
      (pss_cons (ps_if (pt_cmpR op_ge (pv 2) (pe_op op_pow pe_int pe_int) (nomark _))
        (pss_cons (ps_asg (pe_op op_fdiv (pv 2) (pv 1)) (pg_sub (pe_ix ix_list (pv 0) pe_int (fun _ _ => rfl)) (pv 3) set_list))
          (pss_one (ps_ret (pe_op op_mod (pv 2) (pv 1)))))
        pss_nil)
      (pss_one (ps_ret (pe_op op_mod (pe_op op_fdiv (pe_op op_mod (pe_op op_pow (pe_op op_add (pe_op op_add (pe_op op_mod (pv 2) pe_int) (pe_op op_mul pe_int (pe_ix ix_list (pv 0) pe_int (fun _ _ => rfl)))) pe_int) pe_int) pe_int) pe_int) (pv 1))))))), ?_⟩
    obtain ⟨cells, n, ha, hc, nac, hlen, hn⟩ := hD
    refine ⟨.ref a, rfl, a, _, 1, .int n, rfl, rfl, .inl (.inl ha), atI_nat (j := 1) rfl, n, 1, rfl, rfl, .ref a, rfl, a, _, 1, 1, rfl, rfl, ha, rfl, ?_⟩
    refine gen_heap (fun H1 => H1 a = some (.lst [.ref c, .int ((n : Int) + 1)]) ∧ H1 c = some (.lst (cells.map V.int)) ∧ But a c H H1) ⟨upd_same, by rw [upd_ne (Ne.symm nac)]; exact hc, fun b o h1 _ e => by rw [upd_ne h1]; exact e⟩ fun H1 ⟨ha1, hc1, b1⟩ => ?_
    refine ⟨1, rfl, by show 2 ≤ sizeLine; decide, fun T nT => ⟨T, _, rfl, .inl (.inl upd_same), rfl, _, _, rfl, _, _, rfl, rfl, ?_⟩⟩
    have s2 : Same H1 (upd H1 T (.tup [.int 0, .int (-1)])) := same_new nT
    refine gen_heap (fun H2 => H2 a = some (.lst [.ref c, .int ((n : Int) + 1)]) ∧ H2 c = some (.lst (cells.map V.int)) ∧ But a c H H2) ⟨s2 _ _ ha1, s2 _ _ hc1, b1.trans (But.of s2)⟩ fun H2 ⟨ha2, hc2, b2⟩ => ?_
    have hcs : SqL K H2 c (cells.map V.int) := .inl (.inl hc2)
    have has : SqL K H2 a [.ref c, .int ((n : Int) + 1)] := .inl (.inl ha2)
    -- the end of the walk, from any cell
    have fin : ∀ (z ix : Int) (j : Nat), (10 ^ 18 ≤ z → ixN cells.length ix = some j) →
        tSeq (tIfS (tTest (tOp (rI0 fun i j => V.bl (decide (j ≤ i))) (tVar 2) (tOp (rI CPow fun i j => V.int (i ^ j.toNat)) (tC (V.int 10)) (tC (V.int 18)))))
          (tSeq (tAsg (tOp (rI CDiv fun i j => V.int (i / j)) (tVar 2) (tVar 1)) (gSub (tOp (rIxL K) (tVar 0) (tC (V.int 0))) (tVar 3) rSetL))
            (tRet (tOp (rI (fun x j => 0 < j) fun i j => V.int (i % j)) (tVar 2) (tVar 1)))) tNext)
        (tRet (tOp (rI (fun x j => 0 < j) fun i j => V.int (i % j)) (tOp (rI CDiv fun i j => V.int (i / j)) (tOp (rI (fun x j => 0 < j) fun i j => V.int (i % j)) (tOp (rI CPow fun i j => V.int (i ^ j.toNat))
          (tOp (rI0 fun i j => V.int (i + j)) (tOp (rI0 fun i j => V.int (i + j)) (tOp (rI (fun x j => 0 < j) fun i j => V.int (i % j)) (tVar 2) (tC (V.int 2147483587)))
            (tOp (rI CMul fun i j => V.int (i * j)) (tC (V.int 7919)) (tOp (rIxL K) (tVar 0) (tC (V.int 1))))) (tC (V.int 1))) (tC (V.int 5))) (tC (V.int 2147483647))) (tC (V.int 7))) (tVar 1)))
        { nx := fun _ H' => Q .non H', rt := Q } [some (.ref a), some (.int lim), some (.int z), some (.int ix)] H2 := by
      intro z ix j hj
      refine ⟨.int z, rfl, 10, 18, rfl, rfl, ⟨by decide, by decide, by decide⟩, z, _, rfl, rfl, _, rfl, ite2 (fun e => ?_) (fun e => ?_)⟩
      · have ez : (10 : Int) ^ 18 ≤ z := of_decide_eq_true e
        refine ⟨.int z, rfl, .int lim, rfl, z, lim, rfl, rfl, ⟨l0, by omega⟩, .ref a, rfl, a, _, 0, .ref c, rfl, rfl, has, rfl, .int ix, rfl, c, _, ix, j, rfl, rfl, hc2, by rw [List.length_map]; exact hj ez,
          .int z, rfl, .int lim, rfl, z, lim, rfl, rfl, l0, ?_⟩
        refine q _ _ (b2.trans fun b o _ h2 e => by rw [upd_ne h2]; exact e) ⟨cells.set j (z / lim), n + 1, ?_, ?_, nac, by rw [List.length_set]; exact hlen, by omega⟩ (Int.emod_nonneg _ (by omega)) (Int.emod_lt_of_pos _ l0)
        · rw [upd_ne nac, ha2]; rfl
        · rw [upd_same, List.map_set]
      · have m1 : 0 ≤ z % 2147483587 := Int.emod_nonneg _ (by decide)
        have m2 : z % 2147483587 < 2147483587 := Int.emod_lt_of_pos _ (by decide)
        refine ⟨.int z, rfl, z, 2147483587, rfl, rfl, (by show (0 : Int) < 2147483587; decide), .ref a, rfl, a, _, 1, .int ((n : Int) + 1), rfl, rfl, has, rfl, 7919, (n : Int) + 1, rfl, rfl, .inl ⟨by decide, by decide⟩, _, _, rfl, rfl, _, 1, rfl, rfl, _, 5, rfl, rfl, ⟨by decide, by decide, ?_⟩,
          _, 2147483647, rfl, rfl, (by show (0 : Int) < 2147483647; decide), _, 7, rfl, rfl, ⟨by decide, by decide⟩, .int lim, rfl, _, lim, rfl, rfl, l0, ?_⟩
        · omega
        · exact q _ _ b2 ⟨cells, n + 1, by rw [ha2]; rfl, hc2, nac, hlen, by omega⟩ (Int.emod_nonneg _ (by omega)) (Int.emod_lt_of_pos _ l0)
    refine ⟨.ref a, rfl, a, _, 0, .ref c, rfl, rfl, has, rfl, c, _, rfl, .inl hcs, _, 0, rfl, rfl, _, rfl, ite2 (fun e => ?_) (fun e => ?_)⟩
    · have ez : (0 : Int) < ((cells.map V.int).length : Int) := of_decide_eq_true e
      rw [List.length_map] at ez
      have l2 := Int.emod_nonneg ((n : Int) + 1) (show ((cells.length : Int)) ≠ 0 by omega)
      have l3 := Int.emod_lt_of_pos ((n : Int) + 1) ez
      obtain ⟨j, hj⟩ : ∃ j : Nat, ((n : Int) + 1) % (cells.length : Int) = (j : Int) := ⟨_, (Int.toNat_of_nonneg l2).symm⟩
      have hjl : j < cells.length := by omega
      have gj : (cells.map V.int)[j]? = some (.int cells[j]) := by rw [List.getElem?_map, List.getElem?_eq_getElem hjl]; rfl
      refine ⟨.ref a, rfl, a, _, 1, .int ((n : Int) + 1), rfl, rfl, has, rfl, .ref a, rfl, a, _, 0, .ref c, rfl, rfl, has, rfl, c, _, rfl, .inl hcs, _, _, rfl, rfl, by rw [List.length_map]; exact ez, ?_⟩
      refine ⟨.ref a, rfl, a, _, 0, .ref c, rfl, rfl, has, rfl, _, rfl, c, _, _, _, rfl, rfl, hcs, by rw [List.length_map, hj]; exact atI_nat gj, ?_⟩
      rw [List.length_map]
      refine fin _ (((n : Int) + 1) % (cells.length : Int)) j fun _ => ?_
      rw [hj]
      unfold ixN
      rw [if_pos (by omega), if_pos (by omega)]; rfl
    · refine fin 0 (-1) 0 fun h => ?_
      exact absurd h (by decide)
end
end K03
namespace K03
open PySem PySem.Spec PyProof.Rows L2 Pr
def nPanel : List Str := ["_law_deck_here", "_law_most", "_law_count", "_law_way", "_law_found", "_law_button", "_law_others", "_law_kept", "_law_other"]
theorem scPanel : FnScope nPanel ["_law_deck_here", "_law_most"] (defScope sPanel) := ⟨rfl, rfl, rfl, by decide +kernel, rfl, by decide +kernel, by decide +kernel⟩
theorem pick5 {y : Int} (h0 : 0 ≤ y) (h1 : y < 5) : ∃ v : Int, atI [V.int 3, .int 2, .int 6, .int 1, .int 4] y = some (.int v) ∧ 0 < v ∧ v < 1000000 := by
  obtain rfl | rfl | rfl | rfl | rfl : y = 0 ∨ y = 1 ∨ y = 2 ∨ y = 3 ∨ y = 4 := by omega
  · exact ⟨3, rfl, by decide, by decide⟩
  · exact ⟨2, rfl, by decide, by decide⟩
  · exact ⟨6, rfl, by decide, by decide⟩
  · exact ⟨1, rfl, by decide, by decide⟩
  · exact ⟨4, rfl, by decide, by decide⟩
section
variable {P : Program} {w : World} {K : PySem.W.Frag} {mg : Str → Option Value} {base : Heap}
def spSame (K : PySem.W.Frag) : Sp := fun vs H Q _ => ∃ (v u : Addr) (d : PyData), vs = [.ref v, .ref u] ∧ Dp K H (.ref v) d ∧ Dp K H (.ref u) d ∧ Shw 60 sizeLine d ∧ Q (.bl true) H
theorem ok_same {f : Addr} {fd : FuncData} {k : Nat} (F : Fun K "_law_same" "_law_same" sSame f fd) (mr : mg "repr" = none) : FnG P w K mg base (k + 1) f fd ["_law_value", "_law_due_here"] (spSame K) := by
  refine okG F scSame (fun vs H Q E h => ?_) (fun cdv A outer s H vs Q E gd hr h => ?_)
  · obtain ⟨v, u, d, rfl, _⟩ := h
    rfl
  · obtain ⟨v, u, d, rfl, hv, hu, hs, q⟩ := h
    refine ⟨_, pss_one (ps_ret (pe_cmpR op_eq (pe_callB (call_repr gd hr) (by rfl) mr (by decide +kernel) (pa_cons (pv 0) pa_nil))
      (pe_callB (call_repr gd hr) (by rfl) mr (by decide +kernel) (pa_cons (pv 1) pa_nil)) (nomark _))), ?_⟩
    refine ⟨.ref v, rfl, v, d, rfl, hv, hs.sh, hs.nd, hs.dp, hs.ln, .ref u, rfl, u, d, rfl, hu, hs.sh, hs.nd, hs.dp, hs.ln, rfl, ?_⟩
    rw [decide_eq_true rfl]
    exact q

/-- found.append(tuple(kept)) -/
theorem panel_append {D : Ends} {σ : L2.St} {a c F K7 : Addr} {m : Nat} {qs : List Addr} {pan : List (List Int)} {l : List Int} {H H8 : Hp} (h4 : σ[4]? = some (some (.ref F))) (h7 : σ[7]? = some (some (.ref K7)))
    (nF : H F = none) (b8 : But a c H H8) (D8 : Deck H8 a c m) (Fa : F ≠ a) (Fc : F ≠ c) (hF : H8 F = some (.lst (qs.map V.ref))) (hqs : Paired (fun q l => FT H8 q (l.map V.int)) qs pan) (hK : H8 K7 = some (.lst (l.map V.int))) (few : qs.length ≤ 100)
    (nx : ∀ H9 q', But a c H H9 → Deck H9 a c m → H9 F = some (.lst ((qs ++ [q']).map V.ref)) → Paired (fun q l => FT H9 q (l.map V.int)) (qs ++ [q']) (pan ++ [l]) → D.nx σ H9) :
    tDrop (tBM K "list" rAppend (tVar 4) (tCons (tCB (rTupF K) (tCons (tVar 7) tNil)) tNil)) D σ H8 := by
  refine ⟨.ref F, h4, .inl ⟨rfl, _, .inl (.inl hF)⟩, .ref K7, h7, K7, _, rfl, .inl (.inl hK), fun p o np ho => ?_⟩
  have sp : Same H8 (upd H8 p (.frz o (.tup (l.map V.int)))) := same_new np
  have pF : p ≠ F := Ne.symm (ne_of_none hF np)
  refine ⟨F, _, .ref p, rfl, rfl, sp _ _ hF, by rw [List.length_map]; exact small1000 (by omega), ?_⟩
  have keep : ∀ b o', b ≠ F → H8 b = some o' → (upd (upd H8 p (.frz o (.tup (l.map V.int)))) F (.lst (qs.map V.ref ++ [.ref p]))) b = some o' := fun b o' hb e => by
    rw [upd_ne hb]; exact sp _ _ e
  have ftk : ∀ q xs, FT H8 q xs → FT (upd (upd H8 p (.frz o (.tup (l.map V.int)))) F (.lst (qs.map V.ref ++ [.ref p]))) q xs := fun q xs ⟨oq, e, z⟩ => ⟨oq, keep q _ (ne_of e hF (by intro z; cases z)) e, z⟩
  refine nx _ p ?_ ?_ ?_ ?_
  · intro b o' h1 h2 e
    exact keep b o' (ne_of_none e nF) (b8 b o' h1 h2 e)
  · obtain ⟨cs, n, e1, e2, e3⟩ := D8
    exact ⟨cs, n, keep _ _ (Ne.symm Fa) e1, keep _ _ (Ne.symm Fc) e2, e3⟩
  · rw [upd_same, List.map_append]; rfl
  · refine Paired.snoc (hqs.mono fun q l h => ftk q _ h) ⟨o, ?_, ho⟩
    rw [upd_ne pF, upd_same]
theorem sub_snoc {acc os : List Int} {k : Nat} {z : Int} (h : acc.Sublist (os.take k)) (hz : os[k]? = some z) : (acc ++ [z]).Sublist (os.take (k + 1)) := by
  rw [List.take_add_one, hz]
  exact h.append (List.Sublist.refl _)
theorem sub_skip {acc os : List Int} {k : Nat} (h : acc.Sublist (os.take k)) : acc.Sublist (os.take (k + 1)) := by
  rw [List.take_add_one]
  exact h.trans (List.sublist_append_left _ _)
theorem map_get {os : List Int} {k : Nat} {x : V} (h : (os.map V.int)[k]? = some x) : ∃ z, os[k]? = some z ∧ x = .int z := by
  rw [List.getElem?_map] at h
  cases e : os[k]? with
  | none => rw [e] at h; cases h
  | some z => rw [e] at h; exact ⟨z, rfl, (Option.some.inj h).symm⟩
def spPanel : Sp := fun vs H Q _ => ∃ (a c : Addr) (m : Nat) (most : Int), vs = [.ref a, .int most] ∧ Deck H a c (m + 200) ∧ 1 ≤ most ∧ most ≤ 10 ∧
  ∀ H' p pan, But a c H H' → Deck H' a c m → PanAt H' p pan → Good pan → Q (.ref p) H'
theorem ok_panel {f fD : Addr} {fd fdD : FuncData} {k : Nat} (F : Fun K "_law_panel" "_law_panel" sPanel f fd) (FD : Fun K "_law_draw" "_law_draw" sDraw fD fdD) (bD : Binds K fdD ["_law_deck_here", "_law_limit"] []) (gD : mg "_law_draw" = some (.ref fD))
    (ml : mg "len" = none) (mr : mg "range" = none) (mt : mg "tuple" = none) : FnOk P w K mg base CX0 (k + 2) f fd ["_law_deck_here", "_law_most"] spPanel := by
  have GD : FnOk P w K mg base CX0 (k + 1) fD fdD ["_law_deck_here", "_law_limit"] spDraw := ok_draw FD ml
  refine F.ok scPanel (fun vs H Q E h => ?_) (fun cdv A outer s H vs Q E hr h => ?_)
  · obtain ⟨a, c, m, most, rfl, _⟩ := h
    rfl
  · obtain ⟨a, c, m, most, rfl, hD, m1, m2, q⟩ := h
    refine ⟨_, pss_cons (ps_asg (pe_tup (pa_cons (pe_ix ix_list (pe_lst (pa_cons (pe_op op_add pe_int (pe_call GD hr (by rfl) gD FD.kp bD .nil pass0 (pa_cons (pv 0) (pa_cons (pv 1) pa_nil)))) (pa_cons (pv 1) pa_nil)))
            (pe_call GD hr (by rfl) gD FD.kp bD .nil pass0 (pa_cons (pv 0) (pa_cons pe_int pa_nil))) (fun _ _ => rfl))
          (pa_cons (pe_call GD hr (by rfl) gD FD.kp bD .nil pass0 (pa_cons (pv 0) (pa_cons pe_int pa_nil))) pa_nil)))
        (pg_tup rfl (pgs_cons (pg_name (i := 2) scPanel.nd rfl (.inr rfl)) (pgs_cons (pg_name (i := 3) scPanel.nd rfl (.inr rfl)) pgs_nil))))
      (pss_cons (ps_set (i := 4) scPanel.nd rfl (.inl rfl) (pe_lst pa_nil))
      (pss_cons (ps_for PassesOwn.never rfl (pi_range1 (by rfl) mr (pa_cons (pv 2) pa_nil)) (pg_name (i := 5) scPanel.nd rfl (.inr rfl))
        (pss_cons (ps_setLc (i := 6) (own := [("_law_other", 8)]) (g := gName 8) rfl scPanel.nd rfl rfl (sw_true rfl rfl rfl (by decide +kernel)) (pi_range1 (by rfl) mr (pa_cons (pv 2) pa_nil))
            (blkOk_by (own := [("_law_other", 8)]) (N := nPanel) (sc := defScope sPanel) (by decide +kernel)) (fun _ _ _ _ _ => pg_name (i := 8) scPanel.nd rfl (Or.inl rfl))
            (fun _ _ _ _ _ => pts_one (pt_cmpR op_ne (pv 8) (pv 5) (nomark _))) (fun _ _ _ _ _ => pv 8))
        (pss_cons (ps_setLc (i := 7) (own := [("_law_other", 8)]) (g := gName 8) rfl scPanel.nd rfl rfl (sw_true rfl rfl rfl (by decide +kernel)) (pi_list (pv 6))
            (blkOk_by (own := [("_law_other", 8)]) (N := nPanel) (sc := defScope sPanel) (by decide +kernel)) (fun _ _ _ _ _ => pg_name (i := 8) scPanel.nd rfl (Or.inl rfl))
            (fun _ _ _ _ _ => pts_one (pt_cmpR op_eq (pe_call GD hr (by rfl) gD FD.kp bD .nil pass0 (pa_cons (pv 0) (pa_cons (pe_ix (show IxR _ (rIxL K) from ix_list) (pe_lst (pa_cons pe_int (pa_cons pe_int (pa_cons pe_int (pa_cons pe_int (pa_cons pe_int pa_nil)))))) (pv 3) (fun _ _ => rfl)) pa_nil))) pe_int (nomark _)))
            (fun _ _ _ _ _ => pv 8))
        (pss_cons (ps_if (pt_cmpR op_eq (pv 3) pe_int (nomark _))
          (pss_one (ps_setLc (i := 7) (own := [("_law_other", 8)]) (g := gName 8) rfl scPanel.nd rfl rfl (sw_true rfl rfl rfl (by decide +kernel)) (pi_list (pv 6))
            (blkOk_by (own := [("_law_other", 8)]) (N := nPanel) (sc := defScope sPanel) (by decide +kernel)) (fun _ _ _ _ _ => pg_name (i := 8) scPanel.nd rfl (Or.inl rfl))
            (fun _ _ _ _ _ => pts_one (pt_cmpR op_eq (pv 8) (pe_op op_mod (pe_op op_add (pv 5) pe_int) (pv 2)) (nomark _)))
            (fun _ _ _ _ _ => pv 8))) pss_nil)
        (pss_one (ps_expr (pe_bm PySem.F.plainAttrs_list PySem.F.slot_list_append PySem.F.type_list_append mt_append (pv 4) (pa_cons (pe_callTy call_tupF (by rfl) mt (by decide +kernel) (pa_cons (pv 7) pa_nil)) pa_nil))))))))
      (pss_one (ps_ret (pe_callTy call_tupF (by rfl) mt (by decide +kernel) (pa_cons (pv 4) pa_nil)))))), ?_⟩
    refine ⟨.ref a, rfl, .int most, rfl, a, c, m + 199, most, rfl, hD.less (by omega), by omega, by omega, fun H1 r1 b1 D1 r1a r1b => ?_⟩
    refine ⟨1, r1, rfl, rfl, .int most, rfl, by show 2 ≤ sizeLine; decide, fun L nL => ?_⟩
    have sL : Same H1 (upd H1 L (.lst [.int (1 + r1), .int most])) := same_new nL
    refine ⟨.ref a, rfl, a, c, m + 198, 2, rfl, D1.same sL, by decide, by decide, fun H2 r2 b2 D2 r2a r2b => ?_⟩
    have hL : H2 L = some (.lst [.int (1 + r1), .int most]) := b2 _ _ (D1.fresh nL).1 (D1.fresh nL).2 upd_same
    obtain ⟨n, hn, n1, n2⟩ : ∃ n : Int, atI [V.int (1 + r1), V.int most] r2 = some (.int n) ∧ 1 ≤ n ∧ n ≤ 10 := by
      obtain rfl | rfl : r2 = 0 ∨ r2 = 1 := by omega
      · exact ⟨1 + r1, rfl, by omega, by omega⟩
      · exact ⟨most, rfl, m1, m2⟩
    refine ⟨L, _, r2, .int n, rfl, rfl, .inl (.inl hL), hn, .ref a, rfl, a, c, m + 197, 5, rfl, D2, by decide, by decide, fun H3 y b3 D3 y0 y5 => ?_⟩
    refine ⟨by show 2 ≤ sizeLine; decide, fun T nT => ⟨T, _, rfl, .inl (.inl upd_same), rfl, _, _, rfl, _, _, rfl, rfl, ?_⟩⟩
    refine gen_heap (fun H4 => But a c H H4 ∧ Deck H4 a c (m + 197)) ⟨(((b1.trans (But.of sL)).trans b2).trans b3).trans (But.of (same_new nT)), D3.same (same_new nT)⟩ fun H4 ⟨b4, D4⟩ => ?_
    -- found = []
    refine ⟨Nat.zero_le _, fun F nF => ?_⟩
    have hnF : H F = none := by
      cases e : H F with
      | none => rfl
      | some o =>
        have := b4 F o (D4.fresh nF).1 (D4.fresh nF).2 e
        rw [nF] at this; cases this
    have FD' := D4.fresh nF
    -- the loop over the buttons
    obtain ⟨nn, rfl⟩ : ∃ nn : Nat, n = (nn : Int) := ⟨n.toNat, (Int.toNat_of_nonneg (by omega)).symm⟩
    refine ⟨_, rfl, _, rfl, by omega, by omega, ?_⟩
    refine for_range (n := nn) (fun i σ H5 => But a c H H5 ∧ Deck H5 a c (m + 10 * (10 - i)) ∧ i ≤ nn ∧
        (∃ (qs : List Addr) (pan : List (List Int)), H5 F = some (.lst (qs.map V.ref)) ∧ Paired (fun q l => FT H5 q (l.map V.int)) qs pan ∧ pan.length = i ∧
          ∀ (j : Nat) (l : List Int), pan[j]? = some l → l.Pairwise (· < ·) ∧ ∀ x ∈ l, 0 ≤ x ∧ x < (nn : Int) ∧ x ≠ (j : Int)) ∧
        ∃ x5 x6 x7 x8, σ = [some (.ref a), some (.int most), some (.int (nn : Int)), some (.int y), some (.ref F), x5, x6, x7, x8]) ?_ ?_ ?_
    · refine ⟨b4.trans (But.of (same_new nF)), (D4.same (same_new nF)).less (by omega), Nat.zero_le _, ⟨[], [], upd_same, .nil, rfl, fun j l h => by simp at h⟩, none, none, none, none, rfl⟩
    · intro i σ H5 hi hP
      obtain ⟨b5, D5, _, ⟨qs, pan, hF, hqs, hpl, hpan⟩, x5, x6, x7, x8, rfl⟩ := hP
      -- others
      refine ⟨_, rfl, _, rfl, by omega, by omega, fun O nO => ?_⟩
      refine lc_range (n := nn) (fun k H6 => Same H5 H6 ∧ ∃ acc : List Int, H6 O = some (.lst (acc.map V.int)) ∧ acc.length ≤ k ∧ acc.Pairwise (· < ·) ∧ ∀ x ∈ acc, 0 ≤ x ∧ x < (k : Int) ∧ x ≠ (i : Int))
        ⟨same_new nO, [], upd_same, Nat.le_refl _, List.Pairwise.nil, fun x h => by cases h⟩ (fun k H6 hk hP => ?_) (fun H6 hP => ?_)
      · obtain ⟨s6, acc, eO, al, ap, am⟩ := hP
        have am' : ∀ x ∈ acc, 0 ≤ x ∧ x < ((k + 1 : Nat) : Int) ∧ x ≠ (i : Int) := fun x hx => by have := am x hx; omega
        refine ⟨rfl, .int (0 + (k : Int)), rfl, .int (0 + (i : Int)), rfl, rfl, _, rfl, ite2 (fun e => ?_) (fun e => ?_)⟩
        · have hne : (k : Int) ≠ (i : Int) := fun z => by
            rw [show (0 + (k : Int)) = (0 + (i : Int)) by omega] at e
            simp at e
          refine ⟨_, rfl, acc.map V.int, eO, by rw [List.length_map]; exact small1000 (by omega), ?_, acc ++ [0 + (k : Int)], ?_, by rw [List.length_append]; show acc.length + 1 ≤ k + 1; omega, ?_, ?_⟩
          · intro b o e
            rw [upd_ne (ne_of_none e nO)]
            exact s6 _ _ e
          · rw [upd_same, List.map_append]; rfl
          · rw [List.pairwise_append]
            refine ⟨ap, List.pairwise_singleton _ _, fun x hx z hz => ?_⟩
            have := am x hx
            rw [List.mem_singleton.mp hz]; omega
          · intro x hx
            rcases List.mem_append.mp hx with h | h
            · exact am' x h
            · rw [List.mem_singleton.mp h]; omega
        · exact ⟨s6, acc, eO, by omega, ap, am'⟩
      · obtain ⟨s6, os, eO, ol, op, om⟩ := hP
        have D6 := D5.same s6
        have oO := D5.fresh nO
        have olen : os.length ≤ 10 := by omega
        -- kept
        refine ⟨.ref O, rfl, O, rfl, ⟨_, .inl (.inl eO)⟩, fun T2 nT2 => ?_⟩
        have oT := D6.fresh nT2
        refine lc_list (xs := os.map V.int) (fun k H7 => But a c H6 H7 ∧ Deck H7 a c (m + 10 * (10 - i) - k) ∧ ∃ acc : List Int, H7 T2 = some (.lst (acc.map V.int)) ∧ acc.Sublist (os.take k))
          ⟨But.of (same_new nT2), (D6.same (same_new nT2)).less (by omega), [], upd_same, List.nil_sublist _⟩ (fun k H7 _ hP => .inl (.inl (hP.1 _ _ oO.1 oO.2 eO))) (fun k x H7 hx hP => ?_) (fun H7 hP => ?_)
        · obtain ⟨b7, D7, acc, eT, as⟩ := hP
          obtain ⟨z, hz, rfl⟩ := map_get hx
          have hk : k < os.length := (List.getElem?_eq_some_iff.mp hz).1
          obtain ⟨v, hv, v0, v1⟩ := pick5 y0 y5
          refine ⟨rfl, .ref a, rfl, by show 5 ≤ sizeLine; decide, fun L nL => ⟨.int y, rfl, L, _, y, .int v, rfl, rfl, .inl (.inl upd_same), hv, a, c, m + 10 * (10 - i) - (k + 1), v, rfl,
            (D7.same (same_new nL)).less (by omega), v0, v1, fun H8 r b8 D8 r0 r1 => ⟨rfl, _, rfl, ite2 (fun e => ?_) (fun e => ?_)⟩⟩⟩
          all_goals
            have b78 : But a c H7 H8 := (But.of (same_new nL)).trans b8
            have eT8 : H8 T2 = some (.lst (acc.map V.int)) := b78 _ _ oT.1 oT.2 eT
          · refine ⟨_, rfl, acc.map V.int, eT8, ?_, ?_, ?_, acc ++ [z], ?_, sub_snoc as hz⟩
            · have := as.length_le
              rw [List.length_take] at this
              rw [List.length_map]; exact small1000 (by omega)
            · intro b o h1 h2 e
              rw [upd_ne (ne_of_none e nT2)]
              exact b78 _ _ h1 h2 (b7 _ _ h1 h2 e)
            · obtain ⟨cs, n, e1, e2, e3⟩ := D8
              exact ⟨cs, n, by rw [upd_ne (Ne.symm oT.1)]; exact e1, by rw [upd_ne (Ne.symm oT.2)]; exact e2, e3⟩
            · rw [upd_same, List.map_append]; rfl
          · exact ⟨b7.trans b78, D8, acc, eT8, sub_skip as⟩
        · obtain ⟨b7, D7, kp, eT, as⟩ := hP
          rw [List.length_map] at D7
          have fine : ∀ l : List Int, l.Sublist os → l.Pairwise (· < ·) ∧ ∀ x ∈ l, 0 ≤ x ∧ x < (nn : Int) ∧ x ≠ (i : Int) := fun l hl => ⟨op.sublist hl, fun x hx => om x (hl.subset hx)⟩
          have b57 : But a c H5 H7 := (But.of s6).trans b7
          have eF7 := b57 _ _ FD'.1 FD'.2 hF
          have ft7 : Paired (fun q l => FT H7 q (l.map V.int)) qs pan := hqs.mono fun q l h => h.but D5 b57
          have eO7 := b7 _ _ oO.1 oO.2 eO
          have close : ∀ (l : List Int) (H9 : Hp) (q' : Addr) (x5 x6 x7 x8 : Option V), l.Sublist os → But a c H H9 → Deck H9 a c (m + 10 * (10 - (i + 1))) → H9 F = some (.lst ((qs ++ [q']).map V.ref)) → Paired (fun q l => FT H9 q (l.map V.int)) (qs ++ [q']) (pan ++ [l]) →
              But a c H H9 ∧ Deck H9 a c (m + 10 * (10 - (i + 1))) ∧ i + 1 ≤ nn ∧ (∃ (qs : List Addr) (pan : List (List Int)), H9 F = some (.lst (qs.map V.ref)) ∧ Paired (fun q l => FT H9 q (l.map V.int)) qs pan ∧ pan.length = i + 1 ∧
                ∀ (j : Nat) (l : List Int), pan[j]? = some l → l.Pairwise (· < ·) ∧ ∀ x ∈ l, 0 ≤ x ∧ x < (nn : Int) ∧ x ≠ (j : Int)) := by
            intro l H9 q' x5 x6 x7 x8 hl g1 g2 g3 g4
            refine ⟨g1, g2, hi, _, _, g3, g4, by rw [List.length_append, hpl]; rfl, fun j l' hj => ?_⟩
            by_cases hji : j < i
            · rw [List.getElem?_append_left (by omega)] at hj
              exact hpan j l' hj
            · rw [List.getElem?_append_right (by omega), hpl] at hj
              obtain rfl : j = i := by
                have := (List.getElem?_eq_some_iff.mp hj).1
                rw [List.length_singleton] at this; omega
              rw [Nat.sub_self] at hj
              obtain rfl : l = l' := by simpa using hj
              exact fine _ hl
          have few : qs.length ≤ 100 := by rw [hqs.length, hpl]; omega
          refine ⟨.int y, rfl, rfl, _, rfl, ite2 (fun e => ?_) (fun e => ?_)⟩
          · -- kept once more
            refine ⟨.ref O, rfl, O, rfl, ⟨_, .inl (.inl eO7)⟩, fun T3 nT3 => ?_⟩
            have oT3 := D7.fresh nT3
            refine lc_list (xs := os.map V.int) (fun k H8 => Same H7 H8 ∧ ∃ acc : List Int, H8 T3 = some (.lst (acc.map V.int)) ∧ acc.Sublist (os.take k))
              ⟨same_new nT3, [], upd_same, List.nil_sublist _⟩ (fun k H8 _ hP => .inl (.inl (hP.1 _ _ eO7))) (fun k x H8 hx hP => ?_) (fun H8 hP => ?_)
            · obtain ⟨s8, acc, eT3, as3⟩ := hP
              obtain ⟨z, hz, rfl⟩ := map_get hx
              refine ⟨rfl, .int z, rfl, .int (0 + (i : Int)), rfl, _, 1, rfl, rfl, .int (nn : Int), rfl, _, _, rfl, rfl, (by show (0 : Int) < (nn : Int); omega), rfl, _, rfl, ite2 (fun e => ?_) (fun e => ?_)⟩
              · refine ⟨_, rfl, acc.map V.int, eT3, ?_, ?_, acc ++ [z], ?_, sub_snoc as3 hz⟩
                · have := as3.length_le
                  rw [List.length_take] at this
                  rw [List.length_map]; exact small1000 (by omega)
                · intro b o e
                  rw [upd_ne (ne_of_none e nT3)]
                  exact s8 _ _ e
                · rw [upd_same, List.map_append]; rfl
              · exact ⟨s8, acc, eT3, sub_skip as3⟩
            · obtain ⟨s8, l3, eT3, as3⟩ := hP
              rw [List.length_map, List.take_length] at as3
              refine panel_append (m := m + 10 * (10 - (i + 1))) (l := l3) rfl rfl hnF ((b5.trans b57).trans (But.of s8)) ((D7.same s8).less (by omega)) FD'.1 FD'.2 (s8 _ _ eF7) (ft7.mono fun _ _ h => h.same s8) eT3 few fun H9 q' g1 g2 g3 g4 => ?_
              obtain ⟨r1, r2, r3, r4⟩ := close l3 H9 q' none none none none as3 g1 g2 g3 g4
              exact ⟨r1, r2, r3, r4, _, _, _, _, rfl⟩
          · rw [List.length_map, List.take_length] at as
            refine panel_append (m := m + 10 * (10 - (i + 1))) (l := kp) rfl rfl hnF (b5.trans b57) (D7.less (by omega)) FD'.1 FD'.2 eF7 ft7 eT few fun H9 q' g1 g2 g3 g4 => ?_
            obtain ⟨r1, r2, r3, r4⟩ := close kp H9 q' none none none none as g1 g2 g3 g4
            exact ⟨r1, r2, r3, r4, _, _, _, _, rfl⟩
    · intro σ H5 hP
      obtain ⟨b5, D5, _, ⟨qs, pan, hF, hqs, hpl, hpan⟩, x5, x6, x7, x8, rfl⟩ := hP
      refine ⟨.ref F, rfl, F, _, rfl, .inl (.inl hF), fun l o nl ho => ?_⟩
      have sl : Same H5 (upd H5 l (.frz o (.tup (qs.map V.ref)))) := same_new nl
      refine q _ l pan (b5.trans (But.of sl)) ((D5.same sl).less (by omega)) ⟨qs, ⟨o, upd_same, ho⟩, hqs.mono fun _ _ z => z.same sl⟩ ?_
      have hnn : (pan.length : Int) = (nn : Int) := by omega
      refine ⟨by omega, by omega, fun l hl => ?_, fun l hl => ?_, fun j l hl h => ?_⟩
      · obtain ⟨j, hj⟩ := List.getElem?_of_mem hl
        exact (hpan j l hj).1
      · obtain ⟨j, hj⟩ := List.getElem?_of_mem hl
        intro x hx
        have := (hpan j l hj).2 x hx
        exact ⟨this.1, by omega⟩
      · exact ((hpan j l hl).2 _ h).2.2 rfl
end
end K03
namespace K03
open PySem PySem.Spec PyProof.Rows L2 Pr
def nPress : List Str := ["panel", "state", "button", "released", "kept", "other"]
theorem scPress : FnScope nPress ["panel", "state", "button"] (defScope sPress) := ⟨rfl, rfl, rfl, by decide +kernel, rfl, by decide +kernel, by decide +kernel⟩
def nState : List Str := ["_law_deck_here", "_law_count", "_law_way", "_law_button"]
theorem scState : FnScope nState ["_law_deck_here", "_law_count"] (defScope sState) := ⟨rfl, rfl, rfl, by decide +kernel, rfl, by decide +kernel, by decide +kernel⟩
def nPressed : List Str := ["_law_panel_here", "_law_state_here", "_law_row_here", "_law_button", "_law_marks", "_law_other"]
theorem scPressed : FnScope nPressed ["_law_panel_here", "_law_state_here", "_law_row_here"] (defScope sPressed) := ⟨rfl, rfl, rfl, by decide +kernel, rfl, by decide +kernel, by decide +kernel⟩
theorem inV_ints {b : Int} (l : List Int) : inV (.int b) (l.map V.int) = decide (b ∈ l) := by
  unfold inV
  rw [List.any_map, Bool.eq_iff_iff, List.any_eq_true, decide_eq_true_eq]
  constructor
  · rintro ⟨x, hx, e⟩
    have e' : x = b := by simpa [eqV] using e
    rw [← e']; exact hx
  · intro h
    exact ⟨b, h, by simp [eqV]⟩
theorem flat_ints : ∀ l : List Int, (l.map V.int).all flatV = true
  | [] => rfl
  | x :: r => by rw [List.map_cons, List.all_cons, flat_ints r]; rfl
theorem pan_at {H : Hp} {p : Addr} {pan : List (List Int)} (h : PanAt H p pan) {b : Int} (h0 : 0 ≤ b) (h1 : b < (pan.length : Int)) :
    ∃ (qs : List Addr) (q : Addr), FT H p (qs.map V.ref) ∧ atI (qs.map V.ref) b = some (.ref q) ∧ FT H q ((pan.getD b.toNat []).map V.int) ∧ qs.length = pan.length := by
  obtain ⟨qs, hq, hqs⟩ := h
  obtain ⟨n, rfl⟩ : ∃ n : Nat, b = (n : Int) := ⟨b.toNat, (Int.toNat_of_nonneg h0).symm⟩
  have hn : n < pan.length := by omega
  obtain ⟨q', g1, g2⟩ := paired_get hqs n pan[n] (List.getElem?_eq_getElem hn)
  refine ⟨qs, q', hq, atI_nat (by rw [List.getElem?_map, g1]; rfl), ?_, hqs.length⟩
  rw [Int.toNat_natCast, List.getD_eq_getElem?_getD, List.getElem?_eq_getElem hn]
  exact g2
section
variable {P : Program} {w : World} {K : PySem.W.Frag} {mg : Str → Option Value} {base : Heap}
def spPress (K : PySem.W.Frag) : Sp := fun vs H Q _ => ∃ (p t : Addr) (pan : List (List Int)) (st : List Int) (b : Int), vs = [.ref p, .ref t, .int b] ∧ PanAt H p pan ∧ Good pan ∧ SqT K H t (st.map V.int) ∧ Asc pan.length st ∧ 0 ≤ b ∧ b < (pan.length : Int) ∧
  ∀ H' u, Same H H' → H' u = some (.tup ((pressM pan st b).map V.int)) → Q (.ref u) H'
theorem ok_press {f : Addr} {fd : FuncData} {k : Nat} (F : Fun K "press_button" "press_button" sPress f fd) (ms : mg "sorted" = none) (mt : mg "tuple" = none) : FnOk P w K mg base CX0 (k + 1) f fd ["panel", "state", "button"] (spPress K) := by
  refine F.ok scPress (fun vs H Q E h => ?_) (fun cdv A outer s H vs Q E hr h => ?_)
  · obtain ⟨p, t, pan, st, b, rfl, _⟩ := h
    rfl
  · obtain ⟨p, t, pan, st, b, rfl, hp, hg, ht, hs, b0, b1, q⟩ := h
    refine ⟨_, pss_cons (ps_set (i := 3) scPress.nd rfl (.inr rfl) (pe_ix ix_tup (pv 0) (pv 2) (fun _ _ => rfl)))
      (pss_cons (ps_setLc (i := 4) (own := [("other", 5)]) (g := gName 5) rfl scPress.nd rfl rfl (sw_true rfl rfl rfl (by decide +kernel)) (pi_tup (pv 1))
        (blkOk_by (own := [("other", 5)]) (N := nPress) (sc := defScope sPress) (by decide +kernel)) (fun _ _ _ _ _ => pg_name (i := 5) scPress.nd rfl (Or.inl rfl))
        (fun _ _ _ _ _ => pts_one (PW.pt (pw_and (pt_cmpR op_ne (pv 5) (pv 2) (nomark _)) (pw_and1 (pt_cmpR (show OpR _ _ (rIn K true) from op_notIn_seq) (pv 5) (pv 3) (by rfl))))))
        (fun _ _ _ _ _ => pv 5))
      (pss_one (ps_ret (pe_callTy call_tuple_of (by rfl) mt (by decide +kernel) (pa_cons (pe_callB cr_sorted (by rfl) ms (by decide +kernel) (pa_cons (pe_lst (StX.pa_star (pv 4) (pa_cons (pv 2) pa_nil))) pa_nil)) pa_nil))))), ?_⟩
    obtain ⟨qs, q', hq, ha, hr', _⟩ := pan_at hp b0 b1
    refine ⟨.ref p, rfl, .int b, rfl, p, _, b, .ref q', rfl, rfl, hq.sq, ha, ?_⟩
    refine ⟨.ref t, rfl, t, rfl, ⟨_, ht⟩, fun D nD => ?_⟩
    have few := hg.few
    have sl := hs.len
    refine lc_tup (xs := st.map V.int) (fun i H3 => Same H H3 ∧ H3 D = some (.lst (((st.take i).filter (fun x => decide (x ≠ b ∧ x ∉ pan.getD b.toNat []))).map V.int))) ⟨same_new nD, upd_same⟩ (fun i H3 _ hP => same_sqT hP.1 ht) (fun i x H3 hx hP => ?_) (fun H3 hP => ?_)
    · obtain ⟨s3, eD⟩ := hP
      obtain ⟨z, hz, rfl⟩ := map_get hx
      have step : (st.take (i + 1)).filter (fun x => decide (x ≠ b ∧ x ∉ pan.getD b.toNat [])) = (st.take i).filter (fun x => decide (x ≠ b ∧ x ∉ pan.getD b.toNat [])) ++ (if z ≠ b ∧ z ∉ pan.getD b.toNat [] then [z] else []) := by
        rw [List.take_add_one, hz, List.filter_append]
        congr 1
        by_cases e : z ≠ b ∧ z ∉ pan.getD b.toNat []
        · rw [if_pos e]; exact List.filter_cons_of_pos (by simpa using e)
        · rw [if_neg e]; exact List.filter_cons_of_neg (by simpa using e)
      have fl : ((st.take i).filter (fun x => decide (x ≠ b ∧ x ∉ pan.getD b.toNat []))).length ≤ 10 := by
        have h1 := List.length_filter_le (fun x => decide (x ≠ b ∧ x ∉ pan.getD b.toNat [])) (st.take i)
        rw [List.length_take] at h1
        omega
      refine ⟨rfl, .int z, rfl, .int b, rfl, rfl, _, rfl, ite2 (fun e => ?_) (fun e => ?_)⟩
      · have e1 : z ≠ b := fun h => by subst h; simp at e
        refine ⟨.int z, rfl, .ref q', rfl, q', _, rfl, .inr (hr'.same s3).sq, rfl, flat_ints _, _, rfl, ?_⟩
        rw [if_pos rfl, inV_ints]
        refine ite2 (fun e2 => ?_) (fun e2 => ?_)
        · have e3 : z ∉ pan.getD b.toNat [] := by simpa using e2
          refine ⟨.int z, rfl, _, eD, by rw [List.length_map]; exact small1000 (by omega), ?_, ?_⟩
          · intro b' o e
            rw [upd_ne (ne_of_none e nD)]
            exact s3 _ _ e
          · rw [upd_same, step, if_pos ⟨e1, e3⟩, List.map_append]; rfl
        · have e3 : ¬ (z ≠ b ∧ z ∉ pan.getD b.toNat []) := fun h => e2 (by simpa using h.2)
          refine ⟨s3, ?_⟩
          rw [step, if_neg e3, List.append_nil]; exact eD
      · have e3 : ¬ (z ≠ b ∧ z ∉ pan.getD b.toNat []) := fun h => e (by simpa using h.1)
        refine iteF ⟨s3, ?_⟩
        rw [step, if_neg e3, List.append_nil]; exact eD
    · obtain ⟨s3, eD⟩ := hP
      rw [List.length_map, List.take_length] at eD
      refine ⟨.ref D, rfl, D, _, rfl, .inr (.inl (.inl eD)), .int b, rfl, ?_, fun L nL => ?_⟩
      · have h1 := List.length_filter_le (fun x => decide (x ≠ b ∧ x ∉ pan.getD b.toNat [])) st
        rw [List.length_append, List.length_map]
        refine Nat.le_of_lt (small1000 ?_)
        show _ + 1 ≤ 1000
        omega
      · have h1 := List.length_filter_le (fun x => decide (x ≠ b ∧ x ∉ pan.getD b.toNat [])) st
        refine ⟨L, st.filter (fun x => decide (x ≠ b ∧ x ∉ pan.getD b.toNat [])) ++ [b], rfl, .inl (.inl (by rw [upd_same, List.map_append]; rfl)), ?_, fun ns' u perm le nu => ?_⟩
        · rw [List.length_append]; show _ + 1 < 64; omega
        · have en := press_sorted hs b0 b1 perm le
          subst en
          refine ⟨u, _, rfl, .inl ⟨.inl (.inl upd_same), fun l nl => ?_⟩⟩
          exact q _ l (((s3.trans (same_new nL)).trans (same_new nu)).trans (same_new nl)) upd_same

def spState : Sp := fun vs H Q _ => ∃ (a c : Addr) (m n : Nat), vs = [.ref a, .int (n : Int)] ∧ Deck H a c (m + 20) ∧ n ≤ 10 ∧
  ∀ H' t st, But a c H H' → Deck H' a c m → FT H' t (st.map V.int) → Asc n st → Q (.ref t) H'
theorem ok_state {f fD : Addr} {fd fdD : FuncData} {k : Nat} (F : Fun K "_law_state" "_law_state" sState f fd) (FD : Fun K "_law_draw" "_law_draw" sDraw fD fdD) (bD : Binds K fdD ["_law_deck_here", "_law_limit"] []) (gD : mg "_law_draw" = some (.ref fD))
    (ml : mg "len" = none) (mr : mg "range" = none) (mt : mg "tuple" = none) : FnOk P w K mg base CX0 (k + 2) f fd ["_law_deck_here", "_law_count"] spState := by
  have GD : FnOk P w K mg base CX0 (k + 1) fD fdD ["_law_deck_here", "_law_limit"] spDraw := ok_draw FD ml
  refine F.ok scState (fun vs H Q E h => ?_) (fun cdv A outer s H vs Q E hr h => ?_)
  · obtain ⟨a, c, m, n, rfl, _⟩ := h
    rfl
  · obtain ⟨a, c, m, n, rfl, hD, n10, q⟩ := h
    refine ⟨_, pss_cons (ps_set (i := 2) scState.nd rfl (.inr rfl) (pe_call GD hr (by rfl) gD FD.kp bD .nil pass0 (pa_cons (pv 0) (pa_cons pe_int pa_nil))))
      (pss_one (ps_ret (pe_callTy call_tupF (by rfl) mt (by decide +kernel) (pa_cons
        (pe_lc (own := [("_law_button", 3)]) (g := gName 3) rfl scState.nd (pi_range1 (by rfl) mr (pa_cons (pv 1) pa_nil))
          (blkOk_by (own := [("_law_button", 3)]) (N := nState) (sc := defScope sState) (by decide +kernel)) (fun _ _ _ _ _ => pg_name (i := 3) scState.nd rfl (Or.inl rfl))
          (fun _ _ _ _ _ => pts_one (PW.pt (pw_or (pt_cmpR op_eq (pv 2) pe_int (nomark _)) (pw_or1 (pt_cmpR op_eq (pe_call GD hr (by rfl) gD FD.kp bD .nil pass0 (pa_cons (pv 0) (pa_cons (pe_op op_add pe_int (pv 2)) pa_nil))) pe_int (nomark _))))))
          (fun _ _ _ _ _ => pv 3)) pa_nil)))), ?_⟩
    refine ⟨.ref a, rfl, a, c, m + 19, 4, rfl, hD.less (by omega), by decide, by decide, fun H1 y b1 D1 y0 y4 => ?_⟩
    refine ⟨_, rfl, _, rfl, by omega, by omega, fun D nD => ?_⟩
    have oD := D1.fresh nD
    refine lc_range (n := n) (fun i H2 => But a c H1 H2 ∧ Deck H2 a c (m + 19 - i) ∧ ∃ acc : List Int, H2 D = some (.lst (acc.map V.int)) ∧ acc.length ≤ i ∧ acc.Pairwise (· < ·) ∧ ∀ x ∈ acc, 0 ≤ x ∧ x < (i : Int))
      ⟨But.of (same_new nD), (D1.same (same_new nD)).less (by omega), [], upd_same, Nat.le_refl _, List.Pairwise.nil, fun x h => by cases h⟩ (fun i H2 hi hP => ?_) (fun H2 hP => ?_)
    · obtain ⟨b2, D2, acc, eD, al, ap, am⟩ := hP
      rw [Int.zero_add]
      have am' : ∀ x ∈ acc, 0 ≤ x ∧ x < ((i + 1 : Nat) : Int) := fun x hx => by have := am x hx; omega
      have keep : ∀ H3, But a c H2 H3 → Deck H3 a c (m + 19 - (i + 1)) → But a c H1 (upd H3 D (.lst (acc.map V.int ++ [.int (i : Int)]))) ∧ Deck (upd H3 D (.lst (acc.map V.int ++ [.int (i : Int)]))) a c (m + 19 - (i + 1)) ∧
          ∃ acc' : List Int, (upd H3 D (.lst (acc.map V.int ++ [.int (i : Int)]))) D = some (.lst (acc'.map V.int)) ∧ acc'.length ≤ i + 1 ∧ acc'.Pairwise (· < ·) ∧ ∀ x ∈ acc', 0 ≤ x ∧ x < ((i + 1 : Nat) : Int) := by
        intro H3 b3 D3
        refine ⟨fun b o h1 h2 e => ?_, ?_, acc ++ [(i : Int)], ?_, by rw [List.length_append]; show acc.length + 1 ≤ i + 1; omega, ?_, ?_⟩
        · rw [upd_ne (ne_of_none e nD)]
          exact b3 _ _ h1 h2 (b2 _ _ h1 h2 e)
        · obtain ⟨cs, n', e1, e2, e3⟩ := D3
          exact ⟨cs, n', by rw [upd_ne (Ne.symm oD.1)]; exact e1, by rw [upd_ne (Ne.symm oD.2)]; exact e2, e3⟩
        · rw [upd_same, List.map_append]; rfl
        · rw [List.pairwise_append]
          refine ⟨ap, List.pairwise_singleton _ _, fun x hx z hz => ?_⟩
          have := am x hx
          rw [List.mem_singleton.mp hz]; omega
        · intro x hx
          rcases List.mem_append.mp hx with h | h
          · exact am' x h
          · rw [List.mem_singleton.mp h]; omega
      refine ⟨rfl, .int y, rfl, rfl, _, rfl, ite2 (fun e => ?_) (fun e => ?_)⟩
      · exact iteT ⟨.int (i : Int), rfl, _, eD, by rw [List.length_map]; exact small1000 (by omega), keep H2 (But.refl _ _ _) (D2.less (by omega))⟩
      · refine ⟨.ref a, rfl, .int y, rfl, 1, y, rfl, rfl, a, c, m + 19 - (i + 1), 1 + y, rfl, D2.less (by omega), by omega, by omega, fun H3 r b3 D3 r0 r1 => ⟨rfl, _, rfl, ite2 (fun e => ?_) (fun e => ?_)⟩⟩
        · exact ⟨.int (i : Int), rfl, _, b3 _ _ oD.1 oD.2 eD, by rw [List.length_map]; exact small1000 (by omega), keep H3 b3 D3⟩
        · exact ⟨b2.trans b3, D3, acc, b3 _ _ oD.1 oD.2 eD, by omega, ap, am'⟩
    · obtain ⟨b2, D2, acc, eD, al, ap, am⟩ := hP
      refine ⟨D, _, rfl, .inl (.inl eD), fun t o nt ho => ?_⟩
      exact q _ t acc ((b1.trans b2).trans (But.of (same_new nt))) ((D2.same (same_new nt)).less (by omega)) ⟨o, upd_same, ho⟩ ⟨ap, am⟩
end
end K03
namespace K03
open PySem PySem.Spec PyProof.Rows L2 Pr
section
variable {P : Program} {w : World} {K : PySem.W.Frag} {mg : Str → Option Value} {base : Heap}
def spPressed (K : PySem.W.Frag) : Sp := fun vs H Q _ => ∃ (p t r : Addr) (pan : List (List Int)) (st row : List Int), vs = [.ref p, .ref t, .ref r] ∧ PanAt H p pan ∧ Good pan ∧ SqT K H t (st.map V.int) ∧ Asc pan.length st ∧ SqT K H r (row.map V.int) ∧ (∀ x ∈ row, 0 ≤ x ∧ x < (pan.length : Int)) ∧
  ∀ H' u, Same H H' → H' u = some (.tup ((runM pan st row).map V.int)) → Q (.ref u) H'
theorem ok_pressed {f : Addr} {fd : FuncData} {k : Nat} (F : Fun K "_law_pressed" "_law_pressed" sPressed f fd) (ml : mg "len" = none) (mr : mg "range" = none) (mt : mg "tuple" = none) : FnOk P w K mg base CX0 (k + 1) f fd ["_law_panel_here", "_law_state_here", "_law_row_here"] (spPressed K) := by
  refine F.ok scPressed (fun vs H Q E h => ?_) (fun cdv A outer s H vs Q E hr h => ?_)
  · obtain ⟨p, t, r, pan, st, row, rfl, _⟩ := h
    rfl
  · obtain ⟨p, t, r, pan, st, row, rfl, hp, hg, ht, hs, hrow, hin, q⟩ := h
    refine ⟨_, pss_cons (ps_set (i := 4) scPressed.nd rfl (.inr rfl) (pe_lc (own := [("_law_button", 3)]) (g := gName 3) (tt := tYes) rfl scPressed.nd (pi_range1 (by rfl) mr (pa_cons (pe_callB call_len_seq (by rfl) ml PySem.boot_len (pa_cons (pv 0) pa_nil)) pa_nil))
          (blkOk_by (own := [("_law_button", 3)]) (N := nPressed) (sc := defScope sPressed) (by decide +kernel)) (fun _ _ _ _ _ => pg_name (i := 3) scPressed.nd rfl (Or.inl rfl)) (fun _ _ _ _ _ => pts_nil)
          (fun _ _ _ _ _ => pe_cmpR (show OpR _ _ (rIn K false) from op_in_seq) (pv 3) (pv 1) (by rfl))))
      (pss_cons (ps_for PassesOwn.never rfl (pi_tup (pv 2)) (pg_name (i := 3) scPressed.nd rfl (.inr rfl))
        (pss_cons (ps_set (i := 4) scPressed.nd rfl (.inr rfl) (pe_lc (own := [("_law_other", 5)]) (g := gName 5) (tt := tYes) rfl scPressed.nd (pi_range1 (by rfl) mr (pa_cons (pe_callB call_len_seq (by rfl) ml PySem.boot_len (pa_cons (pv 0) pa_nil)) pa_nil))
            (blkOk_by (own := [("_law_other", 5)]) (N := nPressed) (sc := defScope sPressed) (by decide +kernel)) (fun _ _ _ _ _ => pg_name (i := 5) scPressed.nd rfl (Or.inl rfl)) (fun _ _ _ _ _ => pts_nil)
            (fun _ _ _ _ _ => pe_and (pe_ix (show IxR _ (rIxL K) from ix_list) (pv 4) (pv 5) (fun _ _ => rfl)) (pe_one (pe_cmpR (show OpR _ _ (rIn K true) from op_notIn_seq) (pv 5) (pe_ix (show IxR _ (rIxT K) from ix_tup) (pv 0) (pv 3) (fun _ _ => rfl)) (by rfl))))))
        (pss_one (ps_asg pe_bl (pg_sub (pv 4) (pv 3) set_list)))))
      (pss_one (ps_ret (pe_callTy call_tuple_of (by rfl) mt (by decide +kernel) (pa_cons (pe_lc (own := [("_law_button", 3)]) (g := gName 3) rfl scPressed.nd (pi_range1 (by rfl) mr (pa_cons (pe_callB call_len_seq (by rfl) ml PySem.boot_len (pa_cons (pv 0) pa_nil)) pa_nil))
          (blkOk_by (own := [("_law_button", 3)]) (N := nPressed) (sc := defScope sPressed) (by decide +kernel)) (fun _ _ _ _ _ => pg_name (i := 3) scPressed.nd rfl (Or.inl rfl))
          (fun _ _ _ _ _ => pts_one (pt_val (pe_ix (show IxR _ (rIxL K) from ix_list) (pv 4) (pv 3) (fun _ _ => rfl))))
          (fun _ _ _ _ _ => pv 3)) pa_nil))))), ?_⟩
    obtain ⟨qs, hq, hqs⟩ := id hp
    have hl : (qs.map V.ref).length = pan.length := by rw [List.length_map, hqs.length]
    have few := hg.few
    -- marks
    refine ⟨.ref p, rfl, p, _, rfl, .inr hq.sq, _, rfl, by rw [hl]; omega, by rw [hl]; omega, fun D nD => ?_⟩
    rw [hl]
    refine lc_range (n := pan.length) (fun i H3 => Same H H3 ∧ H3 D = some (.lst (((marks pan.length st).take i).map V.bl))) ⟨same_new nD, upd_same⟩ (fun i H3 hi hP => ?_) (fun H3 hP => ?_)
    · obtain ⟨s3, eD⟩ := hP
      rw [Int.zero_add]
      refine ⟨rfl, tyes (iteT ⟨.int (i : Int), rfl, .ref t, rfl, t, _, rfl, .inr (same_sqT s3 ht), rfl, flat_ints _, _, eD, ?_, ?_, ?_⟩)⟩
      · rw [List.length_map, List.length_take, marks_len]; exact small1000 (by omega)
      · intro b o e
        rw [upd_ne (ne_of_none e nD)]
        exact s3 _ _ e
      · rw [upd_same, if_neg Bool.false_ne_true, inV_ints, List.take_add_one, marks_get hi, List.map_append]; rfl
    · obtain ⟨s3, eD⟩ := hP
      rw [List.take_of_length_le (by rw [marks_len]; exact Nat.le_refl _)] at eD
      -- the presses
      refine ⟨.ref r, rfl, r, rfl, ⟨_, same_sqT s3 hrow⟩, ?_⟩
      refine for_tup (xs := row.map V.int) (fun k σ H5 => Same H H5 ∧ ∃ M x3 x5, H M = none ∧ H5 M = some (.lst ((marks pan.length (runM pan st (row.take k))).map V.bl)) ∧ σ = [some (.ref p), some (.ref t), some (.ref r), x3, some (.ref M), x5])
        ⟨s3, D, _, _, nD, eD, rfl⟩ (fun k σ H5 _ hP => same_sqT hP.1 hrow) (fun k x σ H5 hx hP => ?_) (fun σ H5 hP => ?_)
      · obtain ⟨s5, M, x3, x5, nM, eM, rfl⟩ := hP
        obtain ⟨b, hb, rfl⟩ := map_get hx
        have hbr := hin b (List.mem_of_getElem? hb)
        obtain ⟨bn, rfl⟩ : ∃ bn : Nat, b = (bn : Int) := ⟨b.toNat, (Int.toNat_of_nonneg hbr.1).symm⟩
        have hbn : bn < pan.length := by omega
        refine ⟨.ref p, rfl, p, _, rfl, .inr (hq.same s5).sq, _, rfl, by rw [hl]; omega, by rw [hl]; omega, fun D2 nD2 => ?_⟩
        rw [hl]
        have nD2' : H D2 = none := s5.free nD2
        refine lc_range (n := pan.length) (fun i H6 => Same H5 H6 ∧ H6 D2 = some (.lst ((((List.range pan.length).map fun i : Nat => (decide ((i : Int) ∈ runM pan st (row.take k)) && !decide ((i : Int) ∈ pan.getD bn []))).take i).map V.bl)))
          ⟨same_new nD2, upd_same⟩ (fun i H6 hi hP => ?_) (fun H6 hP => ?_)
        · obtain ⟨s6, eD2⟩ := hP
          rw [Int.zero_add]
          obtain ⟨qs', q', hq', ha', hr', _⟩ := pan_at (hp.same (s5.trans s6)) (b := (bn : Int)) (by omega) (by omega)
          rw [Int.toNat_natCast] at hr'
          have g1 : ((marks pan.length (runM pan st (row.take k))).map V.bl)[i]? = some (.bl (decide ((i : Int) ∈ runM pan st (row.take k)))) := by rw [List.getElem?_map, marks_get hi]; rfl
          have fin : ∀ bb : Bool, bb = (decide ((i : Int) ∈ runM pan st (row.take k)) && !decide ((i : Int) ∈ pan.getD bn [])) → ∃ acc, H6 D2 = some (.lst acc) ∧ acc.length < sizeLine ∧ Same H5 (upd H6 D2 (.lst (acc ++ [.bl bb]))) ∧
              (upd H6 D2 (.lst (acc ++ [.bl bb]))) D2 = some (.lst ((((List.range pan.length).map fun i : Nat => (decide ((i : Int) ∈ runM pan st (row.take k)) && !decide ((i : Int) ∈ pan.getD bn []))).take (i + 1)).map V.bl)) := by
            intro bb ebb
            refine ⟨_, eD2, ?_, ?_, ?_⟩
            · rw [List.length_map, List.length_take, List.length_map, List.length_range]; exact small1000 (by omega)
            · intro b o e
              rw [upd_ne (ne_of_none e nD2)]
              exact s6 _ _ e
            · rw [upd_same, List.take_add_one, List.getElem?_map, List.getElem?_range hi, List.map_append, ebb]; rfl
          refine ⟨rfl, tyes (iteT ⟨.ref M, rfl, .int (i : Int), rfl, M, _, _, _, rfl, rfl, .inl (.inl (s6 _ _ eM)), atI_nat g1, _, rfl, ite2 (fun e => ?_) (fun e => ?_)⟩)⟩
          · refine ⟨.int (i : Int), rfl, .ref p, rfl, .int (bn : Int), rfl, p, _, _, _, rfl, rfl, hq'.sq, ha', q', _, rfl, .inr hr'.sq, rfl, flat_ints _, ?_⟩
            refine fin _ ?_
            rw [if_pos rfl, inV_ints, e, Bool.true_and]
          · refine fin false ?_
            rw [(Bool.not_eq_true _).mp e, Bool.false_and]
        · obtain ⟨s6, eD2⟩ := hP
          rw [List.take_of_length_le (by rw [List.length_map, List.length_range]; exact Nat.le_refl _)] at eD2
          refine ⟨.ref D2, rfl, .int (bn : Int), rfl, D2, _, (bn : Int), bn, rfl, rfl, eD2, ?_, ?_⟩
          · unfold ixN
            rw [if_pos (by omega), if_pos (by rw [List.length_map, List.length_map, List.length_range]; omega)]; rfl
          · refine ⟨?_, D2, _, _, nD2', ?_, rfl⟩
            · intro b o e
              rw [upd_ne (ne_of_none e nD2')]
              exact s6 _ _ (s5 _ _ e)
            · rw [upd_same, runM_take hb, ← marks_set hbn, List.map_set]
      · obtain ⟨s5, M, x3, x5, nM, eM, rfl⟩ := hP
        rw [List.length_map, List.take_length] at eM
        refine ⟨.ref p, rfl, p, _, rfl, .inr (hq.same s5).sq, _, rfl, by rw [hl]; omega, by rw [hl]; omega, fun D3 nD3 => ?_⟩
        rw [hl]
        have hasc := runM_asc (row := row) hs
        refine lc_range (n := pan.length) (fun i H6 => Same H5 H6 ∧ H6 D3 = some (.lst (((intL i).filter (fun x => decide (x ∈ runM pan st row))).map V.int))) ⟨same_new nD3, upd_same⟩ (fun i H6 hi hP => ?_) (fun H6 hP => ?_)
        · obtain ⟨s6, eD3⟩ := hP
          rw [Int.zero_add]
          have g1 : ((marks pan.length (runM pan st row)).map V.bl)[i]? = some (.bl (decide ((i : Int) ∈ runM pan st row))) := by rw [List.getElem?_map, marks_get hi]; rfl
          have il := List.length_filter_le (fun x => decide (x ∈ runM pan st row)) (intL i)
          rw [intL_len] at il
          refine ⟨rfl, .ref M, rfl, .int (i : Int), rfl, M, _, _, _, rfl, rfl, .inl (.inl (s6 _ _ eM)), atI_nat g1, _, rfl, ite2 (fun e => ?_) (fun e => ?_)⟩
          · refine ⟨.int (i : Int), rfl, _, eD3, by rw [List.length_map]; exact small1000 (by omega), ?_, ?_⟩
            · intro b o e
              rw [upd_ne (ne_of_none e nD3)]
              exact s6 _ _ e
            · rw [upd_same, intL_succ, List.filter_append, List.filter_cons_of_pos (by exact e), List.map_append]; rfl
          · refine ⟨s6, ?_⟩
            rw [intL_succ, List.filter_append, List.filter_cons_of_neg (by exact e)]
            show _ = some (HO.lst (List.map V.int (_ ++ [])))
            rw [List.append_nil]; exact eD3
        · obtain ⟨s6, eD3⟩ := hP
          rw [hasc.eq] at eD3
          refine ⟨D3, _, rfl, .inl ⟨.inl (.inl eD3), fun u nu => ?_⟩⟩
          exact q _ u ((s5.trans s6).trans (same_new nu)) upd_same
end
end K03
namespace K03
open PySem PySem.Spec PyProof.Rows L2 Pr
theorem scBtn : FnScope ["value", "many"] ["value", "many"] (defScope sBtn) := ⟨rfl, rfl, rfl, by decide +kernel, rfl, by decide +kernel, by decide +kernel⟩
theorem scNum : FnScope ["_law_value", "_law_low", "_law_high"] ["_law_value", "_law_low", "_law_high"] (defScope sIsNum) := ⟨rfl, rfl, rfl, by decide +kernel, rfl, by decide +kernel, by decide +kernel⟩
section
variable {P : Program} {w : World} {K : PySem.W.Frag} {mg : Str → Option Value} {base : Heap}
def spBtn (K : PySem.W.Frag) : Sp := fun vs H Q _ => ∃ (N : Addr → Prop) (v : V) (d : PyData) (n : Int), vs = [v, .int n] ∧ Dq K N H v d ∧ Q (.bl (isBtn n d)) H
theorem ok_btn {f : Addr} {fd : FuncData} {k : Nat} (F : Fun K "is_button" "is_button" sBtn f fd) (mi : mg "isinstance" = none) (mb : mg "bool" = none) (mn : mg "int" = none) : FnOk P w K mg base CX0 (k + 1) f fd ["value", "many"] (spBtn K) := by
  refine F.ok scBtn (fun vs H Q E h => ?_) (fun cdv A outer s H vs Q E hr h => ?_)
  · obtain ⟨N, v, d, n, rfl, _⟩ := h
    rfl
  · obtain ⟨N, v, d, n, rfl, hd, q⟩ := h
    refine ⟨_, pss_cons (ps_if (PW.pt (pw_or (pt_val (pe_callB call_isi (by rfl) mi (by decide +kernel) (pa_cons (pv 0) (pa_cons (pe_bltn (v := .ty "bool") (by rfl) mb (by decide +kernel) rfl) pa_nil))))
        (pw_or1 (pt_not (pt_val (pe_callB call_isi (by rfl) mi (by decide +kernel) (pa_cons (pv 0) (pa_cons (pe_bltn (v := .ty "int") (by rfl) mn (by decide +kernel) rfl) pa_nil))))))))
        (pss_one (ps_ret pe_bl)) pss_nil)
      (pss_one (ps_ret (pe_chain op_le op_lt pe_int (pv 0) (pv 1)))), ?_⟩
    refine ⟨v, rfl, v, .ty "bool", _, _, _, rfl, .ty "bool", hd.ty, isB_kit d, _, rfl, ?_⟩
    by_cases hb : ∃ b, d = .bool b
    · obtain ⟨b, rfl⟩ := hb
      exact iteT (iteT q)
    · have e1 : isB d = false := by
        cases d <;> first | rfl | exact absurd ⟨_, rfl⟩ hb
      rw [e1]
      refine iteF ⟨v, rfl, v, .ty "int", _, _, _, rfl, .ty "int", hd.ty, isI_kit d, _, rfl, ?_⟩
      by_cases hi : ∃ i, d = .int i
      · obtain ⟨i, rfl⟩ := hi
        cases hd
        refine iteF ⟨.int i, rfl, 0, i, rfl, rfl, _, rfl, ite2 (fun e => ?_) (fun e => ?_)⟩
        · refine ⟨.int n, rfl, i, n, rfl, rfl, ?_⟩
          have q' : Q (.bl (decide (0 ≤ i) && decide (i < n))) H := q
          rw [e, Bool.true_and] at q'
          exact q'
        · have q' : Q (.bl (decide (0 ≤ i) && decide (i < n))) H := q
          rw [(Bool.not_eq_true _).mp e, Bool.false_and] at q'
          exact q'
      · have e2 : isI d = false := by
          cases d <;> first | rfl | exact absurd ⟨_, rfl⟩ hi | exact absurd ⟨_, rfl⟩ hb
        rw [e2]
        have q' : Q (.bl false) H := by
          cases d <;> first | exact q | exact absurd ⟨_, rfl⟩ hi
        exact iteT q'

def spNum (K : PySem.W.Frag) : Sp := fun vs H Q _ => ∃ (N : Addr → Prop) (v : V) (d : PyData) (m : Int), vs = [v, .int 0, .int m] ∧ Dq K N H v d ∧ Q (.bl (isBtn (m + 1) d)) H
theorem ok_num {f : Addr} {fd : FuncData} {k : Nat} (F : Fun K "_law_is_number" "_law_is_number" sIsNum f fd) (mi : mg "isinstance" = none) (mb : mg "bool" = none) (mn : mg "int" = none) : FnOk P w K mg base CX0 (k + 1) f fd ["_law_value", "_law_low", "_law_high"] (spNum K) := by
  refine F.ok scNum (fun vs H Q E h => ?_) (fun cdv A outer s H vs Q E hr h => ?_)
  · obtain ⟨N, v, d, m, rfl, _⟩ := h
    rfl
  · obtain ⟨N, v, d, m, rfl, hd, q⟩ := h
    refine ⟨_, pss_one (ps_ret (pe_and (pe_callB call_isi (by rfl) mi (by decide +kernel) (pa_cons (pv 0) (pa_cons (pe_bltn (v := .ty "int") (by rfl) mn (by decide +kernel) rfl) pa_nil)))
      (pe_and (pe_not (pe_callB call_isi (by rfl) mi (by decide +kernel) (pa_cons (pv 0) (pa_cons (pe_bltn (v := .ty "bool") (by rfl) mb (by decide +kernel) rfl) pa_nil)))) (pe_one (pe_chain op_le op_le (pv 1) (pv 0) (pv 2)))))), ?_⟩
    refine ⟨v, rfl, v, .ty "int", _, _, _, rfl, .ty "int", hd.ty, isI_kit d, _, rfl, ?_⟩
    have second : isI d = true → (isB d = true → Q (.bl false) H) ∧ (isB d = false → ∃ i, d = .int i) := fun e => by
      cases d with
      | bool b => exact ⟨fun _ => q, (fun z => Bool.noConfusion z)⟩
      | int i => exact ⟨(fun z => Bool.noConfusion z), fun _ => ⟨i, rfl⟩⟩
      | none => cases e
      | str _ => cases e
      | list _ => cases e
      | tuple _ => cases e
      | dict _ => cases e
    refine ite2 (fun e => ⟨v, rfl, v, .ty "bool", _, _, _, rfl, .ty "bool", hd.ty, isB_kit d, _, rfl, _, rfl, ?_⟩) (fun e => ?_)
    · cases eb : isB d with
      | true => exact iteF ((second e).1 eb)
      | false =>
        obtain ⟨i, rfl⟩ := (second e).2 eb
        cases hd
        have q' : Q (.bl (decide (0 ≤ i) && decide (i < m + 1))) H := q
        refine iteT ⟨.int 0, rfl, .int i, rfl, 0, i, rfl, rfl, _, rfl, ite2 (fun e => ?_) (fun e => ?_)⟩
        · refine ⟨.int m, rfl, i, m, rfl, rfl, ?_⟩
          rw [e, Bool.true_and] at q'
          show Q (.bl (decide (i ≤ m))) H
          rw [show decide (i ≤ m) = decide (i < m + 1) from decide_eq_decide.mpr (by omega)]
          exact q'
        · rw [(Bool.not_eq_true _).mp e, Bool.false_and] at q'
          exact q'
    · have : isBtn (m + 1) d = false := by
        cases d <;> first | rfl | exact absurd rfl e
      rw [this] at q
      exact q
end
theorem scOdd : FnScope ["_law_deck_here", "_law_some"] ["_law_deck_here"] (defScope sOdd) := ⟨rfl, rfl, rfl, by decide +kernel, rfl, by decide +kernel, by decide +kernel⟩
def tOdd18 : TA := tCons (tC .non) (tCons (tC (.bl true)) (tCons (tC (.bl false)) (tCons (tUn (rU fun i => .int (-i)) (tC (.int 1))) (tCons (tC (.int 0)) (tCons (tC (.int 1)) (tCons (tC (.int 10))
  (tCons (tOp (rI CPow fun i j => .int (i ^ j.toNat)) (tC (.int 10)) (tC (.int 39))) (tCons (tC (.str (Str.ofString ""))) (tCons (tC (.str (Str.ofString "0>1"))) (tCons (tTup tNil) (tCons (tLstG tNil) (tCons tDNewK (tCons (tTup (tCons (tC (.int 0)) tNil))
  (tCons (tLstG (tCons (tC (.int 0)) tNil)) (tCons (tTup (tCons (tC (.bl true)) tNil)) (tCons (tTup (tCons (tC (.int 1)) (tCons (tC (.int 0)) tNil))) (tCons (tTup (tCons (tC (.int 0)) (tCons (tC (.int 0)) tNil))) tNil)))))))))))))))))
theorem low_of {d : PyData} (h : lowB d = true) : Low d := h
theorem e18 {K : PySem.W.Frag} {N : Addr → Prop} (σ : L2.St) (H0 : Hp) (kN : ∀ x, N x → H0 x ≠ none) : EvA K N σ H0 tOdd18 (AllP Low 18) :=
      eva_cons (ev_non (show lowB _ = true by decide +kernel)) (eva_cons (ev_bl (low_bool true)) (eva_cons (ev_bl (low_bool false)) (eva_cons (ev_neg (i := 1) (show lowB _ = true by decide +kernel)) (eva_cons (ev_int (i := 0) (low_int (by decide) (by decide))) (eva_cons (ev_int (i := 1) (low_int (by decide) (by decide))) (eva_cons (ev_int (i := 10) (low_int (by decide) (by decide)))
      (eva_cons (ev_pow (i := 10) (j := 39) ⟨by decide, by decide, by decide⟩ (show lowB _ = true by decide +kernel)) (eva_cons (ev_str (x := Str.ofString "") (show lowB _ = true by decide +kernel)) (eva_cons (ev_str (x := Str.ofString "0>1") (show lowB _ = true by decide +kernel))
      (eva_cons (ev_tup (eva_nil (R := (· = [])) rfl) (fun _ e => by rw [e]; decide) (fun _ e => by rw [e]; show lowB _ = true; decide +kernel)) (eva_cons (ev_lst kN (eva_nil (R := (· = [])) rfl) (fun _ e => by rw [e]; decide) (fun _ e => by rw [e]; show lowB _ = true; decide +kernel))
      (eva_cons (ev_dct0 (show lowB _ = true by decide +kernel)) (eva_cons (ev_tup (eva_consE (d := .int 0) (ev_int rfl) (eva_nil rfl)) (fun _ e => by rw [e]; decide) (fun _ e => by rw [e]; show lowB _ = true; decide +kernel)) (eva_cons (ev_lst kN (eva_consE (d := .int 0) (ev_int rfl) (eva_nil rfl)) (fun _ e => by rw [e]; decide) (fun _ e => by rw [e]; show lowB _ = true; decide +kernel))
      (eva_cons (ev_tup (eva_consE (d := .bool true) (ev_bl rfl) (eva_nil rfl)) (fun _ e => by rw [e]; decide) (fun _ e => by rw [e]; show lowB _ = true; decide +kernel)) (eva_cons (ev_tup (eva_consE (d := .int 1) (ev_int rfl) (eva_consE (d := .int 0) (ev_int rfl) (eva_nil rfl))) (fun _ e => by rw [e]; decide) (fun _ e => by rw [e]; show lowB _ = true; decide +kernel))
      (eva_cons (ev_tup (eva_consE (d := .int 0) (ev_int rfl) (eva_consE (d := .int 0) (ev_int rfl) (eva_nil rfl))) (fun _ e => by rw [e]; decide) (fun _ e => by rw [e]; show lowB _ = true; decide +kernel)) (eva_nil AllP.nil))))))))))))))))))
def tOdd6 : TA := tCons (tTup (tCons (tC (.int 0)) (tCons (tC (.int 1)) tNil))) (tCons (tTup (tCons (tTup tNil) tNil)) (tCons (tTup (tCons (tLstG tNil) tNil)) (tCons (tTup (tCons (tC .non) tNil))
  (tCons (tTup (tCons (tC (.int 0)) (tCons (tC (.str (Str.ofString "1"))) tNil))) (tCons (tDisp [(tC (.str (Str.ofString "a")), tC (.int 0))]) tNil)))))
theorem e6 {K : PySem.W.Frag} {N : Addr → Prop} (σ : L2.St) (H0 : Hp) (kN : ∀ x, N x → H0 x ≠ none) : EvA K N σ H0 tOdd6 (AllP Low 6) :=
  eva_cons (ev_tup (eva_consE (d := .int 0) (ev_int rfl) (eva_consE (d := .int 1) (ev_int rfl) (eva_nil rfl))) (fun _ e => by rw [e]; decide) (fun _ e => by rw [e]; show lowB _ = true; decide +kernel))
  (eva_cons (ev_tup (eva_consE (d := .tuple []) (ev_tup (eva_nil (R := (· = [])) rfl) (fun _ e => by rw [e]; decide) (fun _ e => by rw [e])) (eva_nil rfl)) (fun _ e => by rw [e]; decide) (fun _ e => by rw [e]; show lowB _ = true; decide +kernel))
  (eva_cons (ev_tup (eva_consE (d := .list []) (ev_lst kN (eva_nil (R := (· = [])) rfl) (fun _ e => by rw [e]; decide) (fun _ e => by rw [e])) (eva_nil rfl)) (fun _ e => by rw [e]; decide) (fun _ e => by rw [e]; show lowB _ = true; decide +kernel))
  (eva_cons (ev_tup (eva_consE (d := .none) (ev_non rfl) (eva_nil rfl)) (fun _ e => by rw [e]; decide) (fun _ e => by rw [e]; show lowB _ = true; decide +kernel))
  (eva_cons (ev_tup (eva_consE (d := .int 0) (ev_int rfl) (eva_consE (d := .str (Str.ofString "1")) (ev_str rfl) (eva_nil rfl))) (fun _ e => by rw [e]; decide) (fun _ e => by rw [e]; show lowB _ = true; decide +kernel))
  (eva_cons (ev_dct1 (x := Str.ofString "a") (i := 0) (show lowB _ = true by decide +kernel)) (eva_nil AllP.nil))))))
theorem asg_lst {t : TA} {g : TG} {u : TS} {D : Ends} {σ : L2.St} {H : Hp} (h : t σ H fun xs H1 => xs.length ≤ sizeLine ∧ ∀ p, H1 p = none → g (.ref p) σ (upd H1 p (.lst xs)) (u D)) : tSeq (tAsg (tLst t) g) u D σ H := h
theorem of_lst {t : TA} {σ : L2.St} {H : Hp} {Q : VK} (h : t σ H fun xs H1 => xs.length ≤ sizeLine ∧ ∀ p, H1 p = none → Q (.ref p) (upd H1 p (.lst xs))) : tLst t σ H Q := h
section
variable {P : Program} {w : World} {K : PySem.W.Frag} {mg : Str → Option Value} {base : Heap}
def spOdd (K : PySem.W.Frag) : Sp := fun vs H Q _ => ∃ (N : Addr → Prop) (a c : Addr) (m : Nat), vs = [.ref a] ∧ Deck H a c (m + 1) ∧ N a ∧ N c ∧ (∀ x, N x → H x ≠ none) ∧
  ∀ H' v d, But a c H H' → Deck H' a c m → Dq K N H' v d → Low d → Q v H'
theorem ok_odd {f fD : Addr} {fd fdD : FuncData} {k : Nat} (F : Fun K "_law_odd" "_law_odd" sOdd f fd) (FD : Fun K "_law_draw" "_law_draw" sDraw fD fdD) (bD : Binds K fdD ["_law_deck_here", "_law_limit"] []) (gD : mg "_law_draw" = some (.ref fD))
    (ml : mg "len" = none) : FnOk P w K mg base CX0 (k + 2) f fd ["_law_deck_here"] (spOdd K) := by
  have GD : FnOk P w K mg base CX0 (k + 1) fD fdD ["_law_deck_here", "_law_limit"] spDraw := ok_draw FD ml
  refine F.ok scOdd (fun vs H Q E h => ?_) (fun cdv A outer s H vs Q E hr h => ?_)
  · obtain ⟨N, a, c, m, rfl, _⟩ := h
    rfl
  · obtain ⟨N, a, c, m, rfl, hD, na, nc, kN, q⟩ := h
    refine ⟨_, pss_cons (ps_set (i := 1) scOdd.nd rfl (.inl rfl) (pe_lst
        (pa_cons pe_non (pa_cons pe_bl (pa_cons pe_bl (pa_cons (pe_un un_neg pe_int) (pa_cons pe_int (pa_cons pe_int (pa_cons pe_int (pa_cons (pe_op op_pow pe_int pe_int) (pa_cons pe_str (pa_cons pe_str
        (pa_cons (pe_tup pa_nil) (pa_cons (pe_lstG pa_nil) (pa_cons pe_dnewK (pa_cons (pe_tup (pa_cons pe_int pa_nil)) (pa_cons (pe_lstG (pa_cons pe_int pa_nil)) (pa_cons (pe_tup (pa_cons pe_bl pa_nil))
        (pa_cons (pe_tup (pa_cons pe_int (pa_cons pe_int pa_nil))) (pa_cons (pe_tup (pa_cons pe_int (pa_cons pe_int pa_nil))) pa_nil))))))))))))))))))))
      (pss_one (ps_ret (pe_ix ix_list (pe_op op_cat (pv 1) (pe_lst (pa_cons (pe_tup (pa_cons pe_int (pa_cons pe_int pa_nil))) (pa_cons (pe_tup (pa_cons (pe_tup pa_nil) pa_nil)) (pa_cons (pe_tup (pa_cons (pe_lstG pa_nil) pa_nil))
          (pa_cons (pe_tup (pa_cons pe_non pa_nil)) (pa_cons (pe_tup (pa_cons pe_int (pa_cons pe_str pa_nil))) (pa_cons (pe_disp (pps_cons pe_str pe_int pps_nil) (by rfl) (by rfl) (fun z => by cases z) (by decide)) pa_nil))))))))
        (pe_call GD hr (by rfl) gD FD.kp bD .nil pass0 (pa_cons (pv 0) (pa_cons pe_int pa_nil))) (fun _ _ => rfl)))), ?_⟩
    refine asg_lst ?_
    refine e18 (K := K) (N := N) _ H kN H _ (Same.refl _) fun vs ds H1 s1 hds eds => ?_
    refine ⟨by rw [hds.length, eds.1]; decide, fun L nL => ?_⟩
    have sL : Same H1 (upd H1 L (.lst vs)) := same_new nL
    have s2 := s1.trans sL
    have kn : ∀ x, N x → (upd H1 L (.lst vs)) x ≠ none := fun x h e => by
      cases hh : H x with
      | none => exact kN x h hh
      | some o => have := s2 _ _ hh; rw [e] at this; cases this
    refine ⟨.ref L, rfl, of_lst ?_⟩
    refine e6 (K := K) (N := N) _ (upd H1 L (.lst vs)) kn (upd H1 L (.lst vs)) _ (Same.refl _) fun ws es H3 s3 hes ees => ?_
    refine ⟨by rw [hes.length, ees.1]; decide, fun L' nL' => ?_⟩
    have sL' : Same H3 (upd H3 L' (.lst ws)) := same_new nL'
    refine ⟨L, L', vs, ws, rfl, rfl, sL' _ _ (s3 _ _ upd_same), upd_same, by rw [hds.length, eds.1, hes.length, ees.1]; decide, fun p np => ?_⟩
    have sp : Same (upd H3 L' (.lst ws)) (upd (upd H3 L' (.lst ws)) p (.lst (vs ++ ws))) := same_new np
    have s4 : Same H (upd (upd H3 L' (.lst ws)) p (.lst (vs ++ ws))) := ((s2.trans s3).trans sL').trans sp
    have hall : DqAll K N (upd (upd H3 L' (.lst ws)) p (.lst (vs ++ ws))) (vs ++ ws) (ds ++ es) := (Dq.sameAll (((sL.trans s3).trans sL').trans sp) ds vs hds).append (Dq.sameAll (sL'.trans sp) es ws hes)
    have D4 := hD.same s4
    have fp := (hD.same ((s2.trans s3).trans sL')).fresh np
    refine ⟨.ref a, rfl, a, c, m, 24, rfl, D4, by decide, by decide, fun H5 r b5 D5 r0 r1 => ?_⟩
    obtain ⟨rn, rfl⟩ : ∃ rn : Nat, r = (rn : Int) := ⟨r.toNat, (Int.toNat_of_nonneg r0).symm⟩
    have hlen : (vs ++ ws).length = 24 := by rw [hall.length, (eds.append ees).1]
    have hrn : rn < (vs ++ ws).length := by omega
    obtain ⟨d, hd, hq⟩ := (hall.but na nc D4 b5).get rn _ (List.getElem?_eq_getElem hrn)
    refine ⟨p, _, _, _, rfl, rfl, .inl (.inl (b5 _ _ fp.1 fp.2 upd_same)), atI_nat (List.getElem?_eq_getElem hrn), ?_⟩
    exact q _ _ d ((But.of s4).trans b5) D5 hq ((eds.append ees).2 d (List.mem_of_getElem? hd))
end
def nTwin : List Str := ["_law_row_here", "_law_one"]
theorem scTwin : FnScope nTwin ["_law_row_here"] (defScope sTwin) := ⟨rfl, rfl, rfl, by decide +kernel, rfl, by decide +kernel, by decide +kernel⟩
def twV (x : Int) : V := if x < 2 then .bl (decide (V.int x = V.int 1)) else .int x
def twD (x : Int) : PyData := if x < 2 then .bool (decide (V.int x = V.int 1)) else .int x
def IntP (d : PyData) : Prop := ∃ i : Int, d = .int i ∧ 0 ≤ i ∧ i < 100
theorem IntP.low {d : PyData} (h : IntP d) : Low d := by
  obtain ⟨i, rfl, h0, h1⟩ := h
  exact low_int h0 h1
theorem tw_all {K : PySem.W.Frag} {N : Addr → Prop} {H : Hp} : ∀ ns : List Int, DqAll K N H (ns.map twV) (ns.map twD)
  | [] => .nil
  | x :: r => by
    refine .cons ?_ (tw_all r)
    unfold twV twD
    split
    · exact .bl _
    · exact .int x
theorem tw_low {ns : List Int} (h : ∀ x ∈ ns, 0 ≤ x ∧ x < 100) : ∀ d ∈ ns.map twD, Low d := by
  intro d hd
  obtain ⟨x, hx, rfl⟩ := List.mem_map.mp hd
  unfold twD
  split
  · exact low_bool _
  · exact low_int (h x hx).1 (h x hx).2
section
variable {P : Program} {w : World} {K : PySem.W.Frag} {mg : Str → Option Value} {base : Heap}
def spTwin (K : PySem.W.Frag) : Sp := fun vs H Q _ => ∃ (N : Addr → Prop) (r : Addr) (ns : List Int), vs = [.ref r] ∧ SqT K H r (ns.map V.int) ∧ ns.length ≤ 60 ∧ (∀ x ∈ ns, 0 ≤ x ∧ x < 100) ∧
  ∀ H' t d, Same H H' → Dq K N H' (.ref t) d → TupP Low 60 d → Q (.ref t) H'
theorem ok_twin {f : Addr} {fd : FuncData} {k : Nat} (F : Fun K "_law_twin" "_law_twin" sTwin f fd) (mt : mg "tuple" = none) (mn : mg "int" = none) : FnOk P w K mg base CX0 (k + 1) f fd ["_law_row_here"] (spTwin K) := by
  refine F.ok scTwin (fun vs H Q E h => ?_) (fun cdv A outer s H vs Q E hr h => ?_)
  · obtain ⟨N, r, ns, rfl, _⟩ := h
    rfl
  · obtain ⟨N, r, ns, rfl, hs, few, rg, q⟩ := h
    refine ⟨_, pss_one (ps_ret (pe_callTy call_tupF (by rfl) mt (by decide +kernel) (pa_cons
      (pe_lc (own := [("_law_one", 1)]) (g := gName 1) (tt := tYes) rfl scTwin.nd (pi_tup (pv 0)) (blkOk_by (own := [("_law_one", 1)]) (N := nTwin) (sc := defScope sTwin) (by decide +kernel)) (fun _ _ _ _ _ => pg_name (i := 1) scTwin.nd rfl (Or.inl rfl)) (fun _ _ _ _ _ => pts_nil)
        (fun _ _ _ _ _ => pe_ix (show IxR _ (rIxL K) from ix_list) (pe_lst (pa_cons (pv 1) (pa_cons (pe_cmpR op_eq (pv 1) pe_int (nomark _)) pa_nil))) (pe_callTy call_int1 (by rfl) mn (by decide +kernel) (pa_cons (pe_cmpR op_lt (pv 1) pe_int (nomark _)) pa_nil)) (fun _ _ => rfl))) pa_nil))), ?_⟩
    refine ⟨.ref r, rfl, r, rfl, ⟨_, hs⟩, fun D nD => ?_⟩
    refine lc_tup (xs := ns.map V.int) (fun i H3 => Same H H3 ∧ H3 D = some (.lst ((ns.take i).map twV))) ⟨same_new nD, upd_same⟩ (fun i H3 _ hP => same_sqT hP.1 hs) (fun i x H3 hx hP => ?_) (fun H3 hP => ?_)
    · obtain ⟨s3, eD⟩ := hP
      obtain ⟨z, hz, rfl⟩ := map_get hx
      have hi := (List.getElem?_eq_some_iff.mp hz).1
      refine ⟨rfl, tyes (iteT ⟨.int z, rfl, .int z, rfl, rfl, by show 2 ≤ sizeLine; decide, fun L nL => ?_⟩)⟩
      have sL : Same H3 (upd H3 L (.lst [.int z, .bl (decide (V.int z = V.int 1))])) := same_new nL
      have fin : ∀ v, v = twV z → ∃ acc, (upd H3 L (.lst [.int z, .bl (decide (V.int z = V.int 1))])) D = some (.lst acc) ∧ acc.length < sizeLine ∧ Same H (upd (upd H3 L (.lst [.int z, .bl (decide (V.int z = V.int 1))])) D (.lst (acc ++ [v]))) ∧
          (upd (upd H3 L (.lst [.int z, .bl (decide (V.int z = V.int 1))])) D (.lst (acc ++ [v]))) D = some (.lst ((ns.take (i + 1)).map twV)) := fun v ev => by
        refine ⟨_, sL _ _ eD, by rw [List.length_map, List.length_take]; exact small1000 (by omega), fun b o e => ?_, ?_⟩
        · rw [upd_ne (ne_of_none e nD)]
          exact sL _ _ (s3 _ _ e)
        · rw [upd_same, ev, List.take_add_one, hz, List.map_append]; rfl
      by_cases hz2 : z < 2
      · refine ⟨.int z, rfl, z, 2, rfl, rfl, .inr ⟨_, rfl, L, _, _, .bl (decide (V.int z = V.int 1)), rfl, rfl, .inl (.inl upd_same), ?_, fin _ (if_pos hz2).symm⟩⟩
        rw [decide_eq_true hz2]; rfl
      · refine ⟨.int z, rfl, z, 2, rfl, rfl, .inr ⟨_, rfl, L, _, _, .int z, rfl, rfl, .inl (.inl upd_same), ?_, fin _ (if_neg hz2).symm⟩⟩
        rw [decide_eq_false hz2]; rfl
    · obtain ⟨s3, eD⟩ := hP
      rw [List.length_map, List.take_length] at eD
      refine ⟨D, _, rfl, .inl (.inl eD), fun t o nt ho => ?_⟩
      exact q _ t (.tuple (ns.map twD)) (s3.trans (same_new nt)) (.tup (.inl (.inr ⟨o, upd_same⟩)) (tw_all ns)) ⟨_, rfl, by rw [List.length_map]; exact few, tw_low rg⟩
end
end K03
namespace K03
open PySem PySem.Spec PyProof.Rows L2 Pr
abbrev sInit : Stmt := inClass (topS 3) 0
theorem scInit : FnScope ["self", "index"] ["self", "index"] (defScope sInit) := ⟨rfl, rfl, rfl, by decide +kernel, rfl, by decide +kernel, by decide +kernel⟩
theorem scChk : FnScope ["panel", "value", "index", "item"] ["panel", "value"] (defScope sChk) := ⟨rfl, rfl, rfl, by decide +kernel, rfl, by decide +kernel, by decide +kernel⟩
theorem scRun : FnScope ["panel", "state", "value", "now", "button"] ["panel", "state", "value"] (defScope sRun) := ⟨rfl, rfl, rfl, by decide +kernel, rfl, by decide +kernel, by decide +kernel⟩
/-- what the top says of BadRow, at C, and of its __init__, at fI -/
structure BadTxt (K : PySem.W.Frag) (mg : Str → Option Value) (C fI : Addr) (fdI : FuncData) : Prop where
  oex : OexC K C
  iC : PySem.W.findIn K (.ref C) "__init__" = some (some (.ref fI))
  tI : PySem.W.typeIn K (.ref fI) = some (.type "function")
  noN : PySem.W.findIn K (.ref C) "index" = some none
  gC : mg "BadRow" = some (.ref C)
  FI : Fun K "__init__" "BadRow.__init__" sInit fI fdI
  bI : Binds K fdI ["self", "index"] []
section
variable {P : Program} {w : World} {K : PySem.W.Frag} {mg : Str → Option Value} {base : Heap}
def spInit (K : PySem.W.Frag) (C : Addr) : Sp := fun vs H Q _ => ∃ (e : Addr) (y : V), vs = [.ref e, y] ∧ OexC K C ∧ PySem.W.findIn K (.ref C) "index" = some none ∧ H e = some (exo e C none) ∧
  ∀ dx, H dx = none → dx ≠ e → Q .non (upd (upd H dx (exd dx [("index", y)])) e (exo e C (some dx)))
theorem ok_init {f C : Addr} {fd : FuncData} {k : Nat} (F : Fun K "__init__" "BadRow.__init__" sInit f fd) : FnOk P w K mg base CX0 (k + 1) f fd ["self", "index"] (spInit K C) := by
  refine F.ok scInit (fun vs H Q E h => ?_) (fun cdv A outer s H vs Q E hr h => ?_)
  · obtain ⟨e, y, rfl, _⟩ := h
    rfl
  · obtain ⟨e, y, rfl, T, hno, he, q⟩ := h
    refine ⟨_, pss_one (ps_ost (pv 0) (pv 1)), ?_⟩
    exact ⟨y, rfl, .ref e, rfl, e, C, rfl, T, hno, .inl ⟨he, q⟩⟩
/-- an error of BadRow with its index -/
def ErrAt (H' : Hp) (dd : Addr) (e : PyData) : Prop := H' dd = some (.xd [("index", idxV e)])
def spChk (K : PySem.W.Frag) (C : Addr) : Sp := fun vs H Q E => ∃ (N : Addr → Prop) (p : Addr) (pan : List (List Int)) (v : V) (d : PyData), vs = [.ref p, v] ∧ PanAt H p pan ∧ Dq K N H v d ∧
  (rowBad (pan.length : Int) d = none → ∀ H', Same H H' → Q .non H') ∧ (∀ e, rowBad (pan.length : Int) d = some e → ∀ H' dd, Same H H' → ErrAt H' dd e → E (.ref C) (some dd) H')
theorem made {H : Hp} {C a dx : Addr} {y : V} (na : H a = none) (nd : (upd H a (exo a C none)) dx = none) (ne : dx ≠ a) :
    (upd (upd (upd H a (exo a C none)) dx (exd dx [("index", y)])) a (exo a C (some dx))) a = some (exo a C (some dx)) ∧
    (upd (upd (upd H a (exo a C none)) dx (exd dx [("index", y)])) a (exo a C (some dx))) dx = some (exd dx [("index", y)]) ∧ H dx = none ∧
    Same H (upd (del (upd (upd (upd H a (exo a C none)) dx (exd dx [("index", y)])) a (exo a C (some dx))) a) dx (.xd [("index", y)])) := by
  have nd' : H dx = none := by rw [upd_ne ne] at nd; exact nd
  refine ⟨upd_same, by rw [upd_ne ne, upd_same], nd', fun b o e => ?_⟩
  rw [upd_ne (ne_of_none e nd'), del_ne (ne_of_none e na), upd_ne (ne_of_none e na), upd_ne (ne_of_none e nd'), upd_ne (ne_of_none e na)]
  exact e
theorem ok_chk {f fB C fI : Addr} {fd fdB fdI : FuncData} {k : Nat} {tk : Tok} (F : Fun K "check_row" "check_row" sChk f fd) (T : BadTxt K mg C fI fdI) (FB : Fun K "is_button" "is_button" sBtn fB fdB) (bB : Binds K fdB ["value", "many"] []) (gB : mg "is_button" = some (.ref fB))
    (mM : mg "MAX_ROW" = some (.int 60 tk)) (mi : mg "isinstance" = none) (mb : mg "bool" = none) (mn : mg "int" = none) (mt : mg "tuple" = none) (ml : mg "len" = none) (me : mg "enumerate" = none) :
    FnOk P w K mg base (L2.CX P w) (k + 3) f fd ["panel", "value"] (spChk K C) := by
  have GI : FnOk P w K mg base CX0 (k + 1) fI fdI ["self", "index"] (spInit K C) := ok_init T.FI
  have GB : FnOk P w K mg base CX0 (k + 2) fB fdB ["value", "many"] (spBtn K) := ok_btn FB mi mb mn
  refine F.okX scChk (fun vs H Q E h => ?_) (fun cdv A outer s H vs Q E hr h => ?_)
  · obtain ⟨N, p, pan, v, d, rfl, _⟩ := h
    rfl
  · obtain ⟨N, p, pan, v, d, rfl, hp, hd, q, qE⟩ := h
    refine ⟨_, pss_cons (ps_if (PW.pt (pw_or (pt_not (pt_val (pe_callB call_isi (by rfl) mi (by decide +kernel) (pa_cons (pv 1) (pa_cons (pe_bltn (v := .ty "tuple") (by rfl) mt (by decide +kernel) rfl) pa_nil)))))
        (pw_or1 (pt_cmpR op_gt (pe_callB call_len_seq (by rfl) ml PySem.boot_len (pa_cons (pv 1) pa_nil)) (pe_glob (v := .int 60) rfl mM ⟨_, rfl⟩) (nomark _)))))
        (pss_one (ps_raise rfl (takes_of rfl rfl rfl rfl) (pmk_oex T.oex T.iC T.tI GI hr T.bI .nil pass0 (by rfl) T.gC (pa_cons pe_non pa_nil)))) pss_nil)
      (pss_one (ps_for (passes_of rfl) rfl (pi_enumT (by rfl) me (pa_cons (pv 1) pa_nil)) (pg_tup rfl (pgs_cons (pg_name (i := 2) scChk.nd rfl (.inl rfl)) (pgs_cons (pg_name (i := 3) scChk.nd rfl (.inl rfl)) pgs_nil)))
        (pss_one (ps_if (pt_not (pt_val (pe_call GB hr (by rfl) gB FB.kp bB .nil pass0 (pa_cons (pv 3) (pa_cons (pe_callB call_len_seq (by rfl) ml PySem.boot_len (pa_cons (pv 0) pa_nil)) pa_nil)))))
          (pss_one (ps_raise rfl (takes_of rfl rfl rfl rfl) (pmk_oex T.oex T.iC T.tI GI hr T.bI .nil pass0 (by rfl) T.gC (pa_cons (pv 2) pa_nil)))) pss_nil)))), ?_⟩
    have rz : ∀ (Hx : Hp) (y : V) (e : PyData), y = idxV e → Same H Hx → rowBad (pan.length : Int) d = some e → [y].length ≤ 1000 ∧ ∀ a, Hx a = none → spInit K C (.ref a :: ([y] ++ [])) (upd Hx a (exo a C none))
        (fun v H2 => v = .non ∧ ∃ (d : Addr) (fs : List (Str × V)), H2 a = some (exo a C (some d)) ∧ H2 d = some (exd d fs) ∧ Hx d = none ∧ E (.ref C) (some d) (upd (del H2 a) d (.xd fs))) (fun _ _ _ => False) := fun Hx y e ey sx ee => by
      refine ⟨by show 1 ≤ 1000; decide, fun a na => ⟨a, y, rfl, T.oex, T.noN, upd_same, fun dx nd ne => ⟨rfl, dx, [("index", y)], ?_⟩⟩⟩
      obtain ⟨m1, m2, m3, m4⟩ := made (y := y) na nd ne
      refine ⟨m1, m2, m3, qE e ee _ dx (sx.trans m4) ?_⟩
      show _ = some (HO.xd [("index", idxV e)])
      rw [upd_same, ey]
    obtain ⟨qs, hq, hqs⟩ := id hp
    have hl : (qs.map V.ref).length = pan.length := by rw [List.length_map, hqs.length]
    refine ⟨v, rfl, v, .ty "tuple", _, _, _, rfl, .ty "tuple", hd.ty, isT_kit d, _, rfl, ?_⟩
    by_cases ht : ∃ ds, d = .tuple ds
    · obtain ⟨ds, rfl⟩ := ht
      cases hd with
      | @tup l xs _ hs ha =>
        have hlx := ha.length
        refine iteF ⟨.ref l, rfl, l, xs, rfl, .inr hs, (xs.length : Int), 60, rfl, rfl, _, rfl, ?_⟩
        by_cases h60 : ds.length ≤ 60
        · have e0 : rowBad (pan.length : Int) (.tuple ds) = (badAt (pan.length : Int) 0 ds).map (fun k : Nat => PyData.int (k : Int)) := if_pos h60
          rw [decide_eq_false (by omega)]
          refine iteF ⟨.ref l, rfl, l, xs, rfl, hs, ?_⟩
          refine for_it (walk_enumT (xs := xs)) (fun i σ H' => Same H H' ∧ ∃ x2 x3, σ = [some (.ref p), some (.ref l), x2, x3] ∧ badAt (pan.length : Int) 0 ds = badAt (pan.length : Int) i (ds.drop i)) ⟨Same.refl _, none, none, rfl, rfl⟩ (fun i σ H' _ hP => same_sqT hP.1 hs) (fun i x σ H3 H4 hi hP hY => ?_) (fun σ H' hP => ?_)
          · obtain ⟨s3, x2, x3, rfl, ea⟩ := hP
            obtain ⟨U, y1, y2, rfl, nU, rfl, e1, e2⟩ := hY
            cases e1
            replace e2 : xs[i]? = some y2 := e2
            have sU : Same H3 (upd H3 U (.tup [.int (i : Nat), y2])) := same_new nU
            obtain ⟨di, hdi, hq'⟩ := ha.get i y2 e2
            rw [badAt_drop hdi] at ea
            have s4 := s3.trans sU
            have hq4 := Dq.same s4 di y2 hq'
            refine ⟨U, _, rfl, .inl (.inl upd_same), rfl, _, _, rfl, _, _, rfl, rfl, ?_⟩
            refine ⟨y2, rfl, .ref p, rfl, p, _, rfl, .inr (hq.same s4).sq, N, y2, di, (pan.length : Int), by rw [hl]; rfl, hq4, _, rfl, ?_⟩
            by_cases hb : isBtn (pan.length : Int) di = true
            · rw [hb] at ea ⊢
              rw [if_pos rfl] at ea
              exact iteF ⟨s4, _, _, rfl, ea⟩
            · rw [(Bool.not_eq_true _).mp hb] at ea ⊢
              rw [if_neg Bool.false_ne_true] at ea
              refine iteT ⟨.int (i : Int), rfl, rz _ _ (.int (i : Int)) rfl s4 ?_⟩
              rw [e0, ea]; rfl
          · obtain ⟨s3, x2, x3, rfl, ea⟩ := hP
            rw [hlx, List.drop_length] at ea
            refine q ?_ _ s3
            rw [e0, ea]; rfl
        · rw [decide_eq_true (by omega)]
          exact iteT (rz _ _ .none rfl (Same.refl _) (if_neg h60))
    · have e1 : isT d = false := by
        cases d <;> first | rfl | exact absurd ⟨_, rfl⟩ ht
      rw [e1]
      refine iteT (iteT (rz _ _ .none rfl (Same.refl _) ?_))
      cases d <;> first | rfl | exact absurd ⟨_, rfl⟩ ht
def spRun (K : PySem.W.Frag) (C : Addr) : Sp := fun vs H Q E => ∃ (N : Addr → Prop) (p t : Addr) (pan : List (List Int)) (st : List Int) (v : V) (d : PyData), vs = [.ref p, .ref t, v] ∧ PanAt H p pan ∧ Good pan ∧ SqT K H t (st.map V.int) ∧ Asc pan.length st ∧ Dq K N H v d ∧
  (rowBad (pan.length : Int) d = none → ∀ H' u, Same H H' → SqT K H' u ((runM pan st (rowI d)).map V.int) → Q (.ref u) H') ∧ (∀ e, rowBad (pan.length : Int) d = some e → ∀ H' dd, Same H H' → ErrAt H' dd e → E (.ref C) (some dd) H')
theorem ok_run {f fK fB fP C fI : Addr} {fd fdK fdB fdP fdI : FuncData} {k : Nat} {tk : Tok} (F : Fun K "run" "run" sRun f fd) (T : BadTxt K mg C fI fdI) (FK : Fun K "check_row" "check_row" sChk fK fdK) (bK : Binds K fdK ["panel", "value"] []) (gK : mg "check_row" = some (.ref fK))
    (FB : Fun K "is_button" "is_button" sBtn fB fdB) (bB : Binds K fdB ["value", "many"] []) (gB : mg "is_button" = some (.ref fB))
    (FP : Fun K "press_button" "press_button" sPress fP fdP) (bP : Binds K fdP ["panel", "state", "button"] []) (gP : mg "press_button" = some (.ref fP))
    (mM : mg "MAX_ROW" = some (.int 60 tk)) (mi : mg "isinstance" = none) (mb : mg "bool" = none) (mn : mg "int" = none) (mt : mg "tuple" = none) (ml : mg "len" = none) (me : mg "enumerate" = none) (ms : mg "sorted" = none) :
    FnOk P w K mg base (L2.CX P w) (k + 4) f fd ["panel", "state", "value"] (spRun K C) := by
  have GK : FnOk P w K mg base (L2.CX P w) (k + 3) fK fdK ["panel", "value"] (spChk K C) := ok_chk FK T FB bB gB mM mi mb mn mt ml me
  have GP : FnOk P w K mg base CX0 (k + 3) fP fdP ["panel", "state", "button"] (spPress K) := ok_press FP ms mt
  refine F.okX scRun (fun vs H Q E h => ?_) (fun cdv A outer s H vs Q E hr h => ?_)
  · obtain ⟨N, p, t, pan, st, v, d, rfl, _⟩ := h
    rfl
  · obtain ⟨N, p, t, pan, st, v, d, rfl, hp, hg, ht, hs, hd, q, qE⟩ := h
    refine ⟨_, pss_cons (ps_expr (pe_callS (E := fun _ => E) GK hr (by rfl) gK FK.kp bK (fun σ => passAt (W := fun cls d _ H => E cls d H) (takes_of rfl rfl rfl rfl) σ) (pa_cons (pv 0) (pa_cons (pv 2) pa_nil))))
      (pss_cons (ps_set (i := 3) scRun.nd rfl (.inl rfl) (pv 1))
      (pss_cons (ps_for (passes_of rfl) rfl (pi_tup (pv 2)) (pg_name (i := 4) scRun.nd rfl (.inl rfl))
        (pss_one (ps_set (i := 3) scRun.nd rfl (.inl rfl) (pe_call GP hr (by rfl) gP FP.kp bP .nil pass0 (pa_cons (pv 0) (pa_cons (pv 3) (pa_cons (pv 4) pa_nil)))))))
      (pss_one (ps_ret (pv 3))))), ?_⟩
    refine ⟨.ref p, rfl, v, rfl, N, p, pan, v, d, rfl, hp, hd, fun hb H1 s1 => ?_, fun e he H' dd sm ea => qE e he H' dd sm ea⟩
    obtain ⟨ns, rfl, n60, hn, er⟩ := rowBad_none hb
    cases hd with
    | @tup l xs _ hsq ha =>
      obtain rfl := dqAll_of_ints ha
      have q' := q hb
      rw [er] at q'
      refine ⟨.ref t, rfl, .ref l, rfl, l, rfl, ⟨_, same_sqT s1 hsq⟩, ?_⟩
      refine for_tup (xs := ns.map V.int) (fun k σ H5 => Same H H5 ∧ ∃ u x4, SqT K H5 u ((runM pan st (ns.take k)).map V.int) ∧ σ = [some (.ref p), some (.ref t), some (.ref l), some (.ref u), x4])
        ⟨s1, t, none, same_sqT s1 ht, rfl⟩ (fun k σ H5 _ hP => same_sqT hP.1 hsq) (fun k x σ H5 hx hP => ?_) (fun σ H5 hP => ?_)
      · obtain ⟨s5, u, x4, hu, rfl⟩ := hP
        obtain ⟨b, hb', rfl⟩ := map_get hx
        have hbr := hn b (List.mem_of_getElem? hb')
        refine ⟨.ref p, rfl, .ref u, rfl, .int b, rfl, p, u, pan, _, b, rfl, hp.same s5, hg, hu, runM_asc hs, hbr.1, hbr.2, fun H6 u' s6 e6 => ⟨s5.trans s6, u', _, .inl (.inl ?_), rfl⟩⟩
        rw [runM_take hb']; exact e6
      · obtain ⟨s5, u, x4, hu, rfl⟩ := hP
        rw [List.length_map, List.take_length] at hu
        exact ⟨.ref u, rfl, q' H5 u s5 hu⟩
end
end K03
namespace K03
open PySem PySem.Spec PyProof.Rows L2 Pr
def nRow : List Str := ["_law_deck_here", "_law_count", "_law_most", "_law_k"]
theorem scRow : FnScope nRow ["_law_deck_here", "_law_count", "_law_most"] (defScope sRow) := ⟨rfl, rfl, rfl, by decide +kernel, rfl, by decide +kernel, by decide +kernel⟩
def nDue : List Str := ["_law_panel_here", "_law_state_here", "_law_value", "_law_wrong", "_law_k", "_law_item"]
theorem scDue : FnScope nDue ["_law_panel_here", "_law_state_here", "_law_value"] (defScope sDue) := ⟨rfl, rfl, rfl, by decide +kernel, rfl, by decide +kernel, by decide +kernel⟩
def nTold : List Str := ["_law_panel_here", "_law_state_here", "_law_value", "e"]
theorem scTold : FnScope nTold ["_law_panel_here", "_law_state_here", "_law_value"] (defScope sTold) := ⟨rfl, rfl, rfl, by decide +kernel, rfl, by decide +kernel, by decide +kernel⟩
def rLenQ (K : PySem.W.Frag) : List V → Hp → VK → Prop := fun xs H Q => ∃ p ys, xs = [.ref p] ∧ (SqL K H p ys ∨ SqT K H p ys) ∧ Q (.int ys.length) H
/-! ### the mathematics of the law's look -/
def bads (n : Int) : Nat → List PyData → List Int
  | _, [] => []
  | k, d :: r => if isBtn n d then bads n (k + 1) r else (k : Int) :: bads n (k + 1) r
theorem bads_drop {n : Int} {ds : List PyData} {i : Nat} {d : PyData} (h : ds[i]? = some d) : bads n i (ds.drop i) = if isBtn n d then bads n (i + 1) (ds.drop (i + 1)) else (i : Int) :: bads n (i + 1) (ds.drop (i + 1)) := by
  have hi := (List.getElem?_eq_some_iff.mp h).1
  rw [List.drop_eq_getElem_cons hi, (List.getElem?_eq_some_iff.mp h).2]
  rfl
theorem bads_at {n : Int} : ∀ (ds : List PyData) (k : Nat), (bads n k ds = [] ∧ badAt n k ds = none) ∨ ∃ (j : Nat) (r : List Int), bads n k ds = (j : Int) :: r ∧ badAt n k ds = some j
  | [], _ => .inl ⟨rfl, rfl⟩
  | d :: r, k => by
    unfold bads badAt
    by_cases h : isBtn n d = true
    · rw [if_pos h, if_pos h]
      exact bads_at r (k + 1)
    · rw [if_neg h, if_neg h]
      exact .inr ⟨k, _, rfl, rfl⟩
/-- the state after a row, or the error as a list -/
def dueD (pan : List (List Int)) (st : List Int) (d : PyData) : PyData := match rowBad (pan.length : Int) d with
  | some e => .list [.str "bad", e]
  | none => dInts (runM pan st (rowI d))
theorem idx_dq {K : PySem.W.Frag} {N : Addr → Prop} {H : Hp} {n : Int} {d e : PyData} (h : rowBad n d = some e) : Dq K N H (idxV e) e := by
  rcases rowBad_some h with rfl | ⟨i, rfl, _⟩
  · exact .non
  · exact .int i
theorem fresh_N {N : Addr → Prop} {H H1 : Hp} {p : Addr} (kN : ∀ x, N x → H x ≠ none) (s : Same H H1) (np : H1 p = none) : ¬ N p := fun e => by
  cases hh : H p with
  | none => exact kN p e hh
  | some o => have := s _ _ hh; rw [np] at this; cases this
theorem bad_dq {K : PySem.W.Frag} {N : Addr → Prop} {H H1 : Hp} {p : Addr} {n : Int} {d e : PyData} (kN : ∀ x, N x → H x ≠ none) (s : Same H H1) (h : rowBad n d = some e) (np : H1 p = none) (hs : p ≠ sysModules) :
    Dq K N (upd H1 p (.lst [.str "bad", idxV e])) (.ref p) (.list [.str "bad", e]) := .lst hs (fresh_N kN s np) upd_same (.cons (.str _) (.cons (idx_dq h) .nil))
section
variable {P : Program} {w : World} {K : PySem.W.Frag} {mg : Str → Option Value} {base : Heap}
def spRow : Sp := fun vs H Q _ => ∃ (a c : Addr) (m n : Nat), vs = [.ref a, .int (n : Int), .int 12] ∧ Deck H a c (m + 20) ∧ 1 ≤ n ∧ n ≤ 10 ∧
  ∀ (H' : Hp) (t : Addr) (row : List Int), But a c H H' → Deck H' a c m → FT H' t (row.map V.int) → row.length ≤ 12 → (∀ x ∈ row, 0 ≤ x ∧ x < (n : Int)) → Q (.ref t) H'
theorem ok_row {f fD : Addr} {fd fdD : FuncData} {k : Nat} (F : Fun K "_law_row" "_law_row" sRow f fd) (FD : Fun K "_law_draw" "_law_draw" sDraw fD fdD) (bD : Binds K fdD ["_law_deck_here", "_law_limit"] []) (gD : mg "_law_draw" = some (.ref fD))
    (ml : mg "len" = none) (mr : mg "range" = none) (mt : mg "tuple" = none) : FnOk P w K mg base CX0 (k + 2) f fd ["_law_deck_here", "_law_count", "_law_most"] spRow := by
  have GD : FnOk P w K mg base CX0 (k + 1) fD fdD ["_law_deck_here", "_law_limit"] spDraw := ok_draw FD ml
  refine F.ok scRow (fun vs H Q E h => ?_) (fun cdv A outer s H vs Q E hr h => ?_)
  · obtain ⟨a, c, m, n, rfl, _⟩ := h
    rfl
  · obtain ⟨a, c, m, n, rfl, hD, n1, n10, q⟩ := h
    refine ⟨_, pss_one (ps_ret (pe_callTy call_tupF (by rfl) mt (by decide +kernel) (pa_cons
        (pe_lc (own := [("_law_k", 3)]) (g := gName 3) (tt := tYes) rfl scRow.nd (pi_range1 (by rfl) mr (pa_cons (pe_call GD hr (by rfl) gD FD.kp bD .nil pass0 (pa_cons (pv 0) (pa_cons (pe_op op_add (pv 2) pe_int) pa_nil))) pa_nil))
          (blkOk_by (own := [("_law_k", 3)]) (N := nRow) (sc := defScope sRow) (by decide +kernel)) (fun _ _ _ _ _ => pg_name (i := 3) scRow.nd rfl (Or.inl rfl)) (fun _ _ _ _ _ => pts_nil)
          (fun _ _ _ _ _ => pe_call GD hr (by rfl) gD FD.kp bD .nil pass0 (pa_cons (pv 0) (pa_cons (pv 1) pa_nil)))) pa_nil))), ?_⟩
    refine ⟨.ref a, rfl, .int 12, rfl, 12, 1, rfl, rfl, a, c, m + 19, 13, rfl, hD.less (by omega), by decide, by decide, fun H1 y b1 D1 y0 y1 => ?_⟩
    obtain ⟨yn, rfl⟩ : ∃ yn : Nat, y = (yn : Int) := ⟨y.toNat, (Int.toNat_of_nonneg y0).symm⟩
    refine ⟨_, rfl, by omega, by omega, fun D nD => ?_⟩
    have oD := D1.fresh nD
    rw [Int.toNat_natCast]
    refine lc_range (n := yn) (fun i H2 => But a c H1 H2 ∧ Deck H2 a c (m + 19 - i) ∧ ∃ acc : List Int, H2 D = some (.lst (acc.map V.int)) ∧ acc.length = i ∧ ∀ x ∈ acc, 0 ≤ x ∧ x < (n : Int))
      ⟨But.of (same_new nD), (D1.same (same_new nD)).less (by omega), [], upd_same, rfl, fun x h => by cases h⟩ (fun i H2 hi hP => ?_) (fun H2 hP => ?_)
    · obtain ⟨b2, D2, acc, eD, al, am⟩ := hP
      refine ⟨rfl, tyes (iteT ⟨.ref a, rfl, .int (n : Int), rfl, a, c, m + 19 - (i + 1), (n : Int), rfl, D2.less (by omega), by omega, by omega, fun H3 r b3 D3 r0 r1 => ⟨_, b3 _ _ oD.1 oD.2 eD, by rw [List.length_map]; exact small1000 (by omega), ?_, ?_, acc ++ [r], ?_, ?_, ?_⟩⟩)⟩
      · intro b o h1 h2 e
        rw [upd_ne (ne_of_none e nD)]
        exact b3 _ _ h1 h2 (b2 _ _ h1 h2 e)
      · obtain ⟨cs, n', e1, e2, e3⟩ := D3
        exact ⟨cs, n', by rw [upd_ne (Ne.symm oD.1)]; exact e1, by rw [upd_ne (Ne.symm oD.2)]; exact e2, e3⟩
      · rw [upd_same, List.map_append]; rfl
      · rw [List.length_append, al]; rfl
      · intro x hx
        rcases List.mem_append.mp hx with h | h
        · exact am x h
        · rw [List.mem_singleton.mp h]; exact ⟨r0, r1⟩
    · obtain ⟨b2, D2, acc, eD, al, am⟩ := hP
      refine ⟨D, _, rfl, .inl (.inl eD), fun t o nt ho => ?_⟩
      exact q _ t acc ((b1.trans b2).trans (But.of (same_new nt))) ((D2.same (same_new nt)).less (by omega)) ⟨o, upd_same, ho⟩ (by omega) am

def spDue (K : PySem.W.Frag) : Sp := fun vs H Q _ => ∃ (N N' : Addr → Prop) (p t : Addr) (pan : List (List Int)) (st : List Int) (v : V) (d : PyData), vs = [.ref p, .ref t, v] ∧ PanAt H p pan ∧ Good pan ∧ SqT K H t (st.map V.int) ∧ Asc pan.length st ∧ Dq K N H v d ∧ (∀ x, N' x → H x ≠ none) ∧
  ∀ H' u, Same H H' → Dq K N' H' (.ref u) (dueD pan st d) → Q (.ref u) H'
theorem ok_due {f fN fU : Addr} {fd fdN fdU : FuncData} {k : Nat} (F : Fun K "_law_due" "_law_due" sDue f fd) (FN : Fun K "_law_is_number" "_law_is_number" sIsNum fN fdN) (bN : Binds K fdN ["_law_value", "_law_low", "_law_high"] []) (gN : mg "_law_is_number" = some (.ref fN))
    (FU : Fun K "_law_pressed" "_law_pressed" sPressed fU fdU) (bU : Binds K fdU ["_law_panel_here", "_law_state_here", "_law_row_here"] []) (gU : mg "_law_pressed" = some (.ref fU))
    (mi : mg "isinstance" = none) (mb : mg "bool" = none) (mn : mg "int" = none) (mt : mg "tuple" = none) (ml : mg "len" = none) (mr : mg "range" = none) (me : mg "enumerate" = none) :
    FnOk P w K mg base CX0 (k + 2) f fd ["_law_panel_here", "_law_state_here", "_law_value"] (spDue K) := by
  have GN : FnOk P w K mg base CX0 (k + 1) fN fdN ["_law_value", "_law_low", "_law_high"] (spNum K) := ok_num FN mi mb mn
  have GU : FnOk P w K mg base CX0 (k + 1) fU fdU ["_law_panel_here", "_law_state_here", "_law_row_here"] (spPressed K) := ok_pressed FU ml mr mt
  refine F.ok scDue (fun vs H Q E h => ?_) (fun cdv A outer s H vs Q E hr h => ?_)
  · obtain ⟨N, N', p, t, pan, st, v, d, rfl, _⟩ := h
    rfl
  · obtain ⟨N, N', p, t, pan, st, v, d, rfl, hp, hg, ht, hs, hd, kN, q⟩ := h
    refine ⟨_, pss_cons (ps_if (PW.pt (pw_or (pt_not (pt_val (pe_callB call_isi (by rfl) mi (by decide +kernel) (pa_cons (pv 2) (pa_cons (pe_bltn (v := .ty "tuple") (by rfl) mt (by decide +kernel) rfl) pa_nil)))))
        (pw_or1 (pt_cmpR op_gt (pe_callB call_len_seq (by rfl) ml PySem.boot_len (pa_cons (pv 2) pa_nil)) pe_int (nomark _)))))
        (pss_one (ps_ret (pe_lstG (pa_cons pe_str (pa_cons pe_non pa_nil))))) pss_nil)
      (pss_cons (ps_setLc (i := 3) (own := [("_law_k", 4), ("_law_item", 5)]) (g := gTup K 2 (gCons (gName 4) (gCons (gName 5) gNil))) rfl scDue.nd rfl rfl (sw_true rfl rfl rfl (by decide +kernel)) (pi_enumT (by rfl) me (pa_cons (pv 2) pa_nil))
        (blkOk_by (own := [("_law_k", 4), ("_law_item", 5)]) (N := nDue) (sc := defScope sDue) (by decide +kernel))
        (fun _ _ _ _ _ => pg_tup rfl (pgs_cons (pg_name (i := 4) scDue.nd rfl (Or.inl rfl)) (pgs_cons (pg_name (i := 5) scDue.nd rfl (Or.inl rfl)) pgs_nil)))
        (fun _ _ _ _ _ => pts_one (pt_not (pt_val (pe_call GN hr (by rfl) gN FN.kp bN .nil pass0 (pa_cons (pv 5) (pa_cons pe_int (pa_cons (pe_op op_sub (pe_callB (show CallR _ _ (rLenQ K) from call_len_seq) (by rfl) ml PySem.boot_len (pa_cons (pv 0) pa_nil)) pe_int) pa_nil)))))))
        (fun _ _ _ _ _ => pv 4))
      (pss_one (ps_ret (pe_ifExp (pt_cmpR (op_neE hr.units) (pv 3) (pe_lst pa_nil) (nomark _)) (pe_lstG (pa_cons pe_str (pa_cons (pe_ix ix_list (pv 3) pe_int (fun _ _ => rfl)) pa_nil)))
        (pe_call GU hr (by rfl) gU FU.kp bU .nil pass0 (pa_cons (pv 0) (pa_cons (pv 1) (pa_cons (pv 2) pa_nil)))))))), ?_⟩
    have bad : ∀ e, rowBad (pan.length : Int) d = some e → ∀ (H1 : Hp), Same H H1 → ∀ l, H1 l = none → l ≠ sysModules → Q (.ref l) (upd H1 l (.lst [.str "bad", idxV e])) := fun e he H1 s1 l nl hl' => by
      refine q _ l (s1.trans (same_new nl)) ?_
      unfold dueD
      rw [he]
      exact bad_dq kN s1 he nl hl'
    obtain ⟨qs, hq, hqs⟩ := id hp
    have hl : (qs.map V.ref).length = pan.length := by rw [List.length_map, hqs.length]
    refine ⟨v, rfl, v, .ty "tuple", _, _, _, rfl, .ty "tuple", hd.ty, isT_kit d, _, rfl, ?_⟩
    by_cases htp : ∃ ds, d = .tuple ds
    · obtain ⟨ds, rfl⟩ := htp
      cases hd with
      | @tup l xs _ hs' ha =>
        have hlx := ha.length
        refine iteF ⟨.ref l, rfl, l, xs, rfl, .inr hs', (xs.length : Int), 60, rfl, rfl, _, rfl, ?_⟩
        by_cases h60 : ds.length ≤ 60
        · have e0 : rowBad (pan.length : Int) (.tuple ds) = (badAt (pan.length : Int) 0 ds).map (fun k : Nat => PyData.int (k : Int)) := if_pos h60
          rw [decide_eq_false (by omega)]
          refine iteF ⟨.ref l, rfl, l, xs, rfl, hs', fun D nD => ?_⟩
          refine lc_it (walk_enumT (xs := xs)) (fun i H3 => Same H H3 ∧ ∃ acc : List Int, H3 D = some (.lst (acc.map V.int)) ∧ acc.length ≤ i ∧ bads (pan.length : Int) 0 ds = acc ++ bads (pan.length : Int) i (ds.drop i)) ⟨same_new nD, [], upd_same, Nat.le_refl _, rfl⟩ (fun i H3 _ hP => same_sqT hP.1 hs') (fun i x H3 H4 hi hP hY => ?_) (fun H3 hP => ?_)
          · obtain ⟨s3, acc, eD, al, ea⟩ := hP
            obtain ⟨U, y1, y2, rfl, nU, rfl, e1, e2⟩ := hY
            cases e1
            replace e2 : xs[i]? = some y2 := e2
            have sU : Same H3 (upd H3 U (.tup [.int (i : Nat), y2])) := same_new nU
            obtain ⟨di, hdi, hq'⟩ := ha.get i y2 e2
            rw [bads_drop hdi] at ea
            have s4 := s3.trans sU
            have hq4 := Dq.same s4 di y2 hq'
            refine ⟨U, _, rfl, .inl (.inl upd_same), rfl, _, _, rfl, _, _, rfl, rfl, rfl, ?_⟩
            refine ⟨y2, rfl, .ref p, rfl, p, _, rfl, .inr (hq.same s4).sq, _, 1, rfl, rfl, N, y2, di, _, rfl, hq4, _, rfl, ?_⟩
            rw [hl, Int.sub_add_cancel]
            by_cases hb : isBtn (pan.length : Int) di = true
            · rw [hb] at ea ⊢
              rw [if_pos rfl] at ea
              exact iteF ⟨s4, acc, sU _ _ eD, by omega, ea⟩
            · rw [(Bool.not_eq_true _).mp hb] at ea ⊢
              rw [if_neg Bool.false_ne_true] at ea
              refine iteT ⟨.int (i : Int), rfl, _, sU _ _ eD, by rw [List.length_map]; exact small1000 (by omega), fun b o e => ?_, acc ++ [(i : Int)], ?_, by rw [List.length_append]; show acc.length + 1 ≤ i + 1; omega, ?_⟩
              · rw [upd_ne (ne_of_none e nD)]
                exact s4 _ _ e
              · rw [upd_same, List.map_append]; rfl
              · rw [ea, List.append_assoc]; rfl
          · obtain ⟨s3, acc, eD, al, ea⟩ := hP
            rw [hlx, List.drop_length] at ea
            replace ea : bads (pan.length : Int) 0 ds = acc := by rw [ea]; exact List.append_nil _
            refine ⟨.ref D, rfl, by show 0 ≤ sizeLine; decide, fun Z nZ => ⟨D, Z, _, rfl, rfl, same_new nZ _ _ eD, upd_same, _, rfl, ?_⟩⟩
            have sZ : Same H (upd H3 Z (.lst [])) := s3.trans (same_new nZ)
            rcases bads_at (n := (pan.length : Int)) ds 0 with ⟨b0, bn⟩ | ⟨j, r, b1, bs⟩
            · rw [b0] at ea
              subst ea
              refine iteF ⟨.ref p, rfl, .ref t, rfl, .ref l, rfl, ?_⟩
              have e1 : rowBad (pan.length : Int) (.tuple ds) = none := by rw [e0, bn]; rfl
              obtain ⟨ns, ed, n60, hn, er⟩ := rowBad_none e1
              cases PyData.tuple.inj ed
              obtain rfl := dqAll_of_ints ha
              refine ⟨p, t, l, pan, st, ns, rfl, hp.same sZ, hg, same_sqT sZ ht, hs, same_sqT sZ hs', hn, fun H5 u s5 e5 => q _ u (sZ.trans s5) ?_⟩
              unfold dueD
              rw [e1]
              show Dq K N' H5 (.ref u) (dInts (runM pan st (rowI (.tuple (ns.map PyData.int)))))
              rw [er]
              exact dq_ints (.inl (.inl e5))
            · rw [b1] at ea
              subst ea
              have e1 : rowBad (pan.length : Int) (.tuple ds) = some (.int (j : Int)) := by rw [e0, bs]; rfl
              refine iteT ⟨.ref D, rfl, D, _, 0, .int (j : Int), rfl, rfl, .inl (.inl (same_new nZ _ _ eD)), (show atI (List.map V.int ((j : Int) :: r)) ((0 : Nat) : Int) = some (V.int (j : Int)) from atI_nat rfl), by show 2 ≤ sizeLine; decide, fun l' nl' hs2 => bad _ e1 _ sZ l' nl' hs2⟩
        · rw [decide_eq_true (by omega)]
          exact iteT ⟨by show 2 ≤ sizeLine; decide, fun l' nl' hs2 => bad .none (if_neg h60) _ (Same.refl _) l' nl' hs2⟩
    · have e1 : isT d = false := by
        cases d <;> first | rfl | exact absurd ⟨_, rfl⟩ htp
      rw [e1]
      refine iteT (iteT ⟨by show 2 ≤ sizeLine; decide, fun l' nl' hs2 => bad .none ?_ _ (Same.refl _) l' nl' hs2⟩)
      cases d <;> first | rfl | exact absurd ⟨_, rfl⟩ htp
end
end K03
namespace K03
open PySem PySem.Spec PyProof.Rows L2 Pr
/-- what the top says of the classes, for the law's try -/
structure TryTxt (K : PySem.W.Frag) (mg : Str → Option Value) (C CP CE CT : Addr) : Prop where
  exc : ExcC K C
  xf : XfC K C
  gP : mg "PanelError" = some (.ref CP)
  gE : mg "BadEdit" = some (.ref CE)
  gT : mg "BadText" = some (.ref CT)
  m1 : PySem.W.exmOne K (.ref C) (.ref CP) = some true
  k2 : PySem.W.kitOne K (.ref C) (.type "ValueError") = some true
  k3 : PySem.W.kitAny K (.ref C) [.ref CE, .ref CT] = some false
theorem kit_self {K : PySem.W.Frag} {C : Addr} : PySem.W.kitOne K (.ref C) (.ref C) = some true := if_pos (beq_self_eq_true _)
section
variable {P : Program} {w : World} {K : PySem.W.Frag} {mg : Str → Option Value} {base : Heap}
def spTold (K : PySem.W.Frag) : Sp := fun vs H Q _ => ∃ (N N' : Addr → Prop) (p t : Addr) (pan : List (List Int)) (st : List Int) (v : V) (d : PyData), vs = [.ref p, .ref t, v] ∧ PanAt H p pan ∧ Good pan ∧ SqT K H t (st.map V.int) ∧ Asc pan.length st ∧ Dq K N H v d ∧ (∀ x, N' x → H x ≠ none) ∧
  ∀ H' u, Same H H' → Dq K N' H' (.ref u) (dueD pan st d) → Q (.ref u) H'
def t_held (K : PySem.W.Frag) (C CE CT : Addr) : Addr → Value → Option Addr → TS := fun a cls d =>
  tIfS (tAnd (tB (tCB (rIsX K C a cls d) (tCons (tVar 3) (tCons (tC (.ref C)) tNil)))) (tAnd (tB (tCB (rIsX K C a cls d) (tCons (tVar 3) (tCons (tC (.ty "ValueError")) tNil)))) (tNot (tB (tCB (rIsXT K C a cls d) (tCons (tVar 3) (tCons (tTup (tCons (tC (.ref CE)) (tCons (tC (.ref CT)) tNil))) tNil)))))))
    (tRet (tLstG (tCons (tC (.str "bad")) (tCons (tXf a cls d C "index" (tVar 3)) tNil)))) tNext
theorem ok_told {f fR fK fB fP C CP CE CT fI : Addr} {fd fdR fdK fdB fdP fdI : FuncData} {k : Nat} {tk : Tok} (F : Fun K "_law_told" "_law_told" sTold f fd) (T : BadTxt K mg C fI fdI) (Y : TryTxt K mg C CP CE CT)
    (FR : Fun K "run" "run" sRun fR fdR) (bR : Binds K fdR ["panel", "state", "value"] []) (gR : mg "run" = some (.ref fR)) (FK : Fun K "check_row" "check_row" sChk fK fdK) (bK : Binds K fdK ["panel", "value"] []) (gK : mg "check_row" = some (.ref fK))
    (FB : Fun K "is_button" "is_button" sBtn fB fdB) (bB : Binds K fdB ["value", "many"] []) (gB : mg "is_button" = some (.ref fB))
    (FP : Fun K "press_button" "press_button" sPress fP fdP) (bP : Binds K fdP ["panel", "state", "button"] []) (gP : mg "press_button" = some (.ref fP))
    (mM : mg "MAX_ROW" = some (.int 60 tk)) (mi : mg "isinstance" = none) (mb : mg "bool" = none) (mn : mg "int" = none) (mt : mg "tuple" = none) (ml : mg "len" = none) (me : mg "enumerate" = none) (ms : mg "sorted" = none) (mV : mg "ValueError" = none) :
    FnOk P w K mg base CX0 (k + 5) f fd ["_law_panel_here", "_law_state_here", "_law_value"] (spTold K) := by
  have GR : FnOk P w K mg base (L2.CX P w) (k + 4) fR fdR ["panel", "state", "value"] (spRun K C) := ok_run FR T FK bK gK FB bB gB FP bP gP mM mi mb mn mt ml me ms
  refine F.ok scTold (fun vs H Q E h => ?_) (fun cdv A outer s H vs Q E hr h => ?_)
  · obtain ⟨N, N', p, t, pan, st, v, d, rfl, _⟩ := h
    rfl
  · obtain ⟨N, N', p, t, pan, st, v, d, rfl, hp, hg, ht, hs, hd, kN, q⟩ := h
    refine ⟨_, pss_cons (ps_try_as (i := 3) (tb := fun W => tRet (tCallS (spRun K C) (WE W) (tCons (tVar 0) (tCons (tVar 1) (tCons (tVar 2) tNil))))) (ts := t_held K C CE CT) (Wout := fun _ _ _ _ => False) rfl rfl scTold.nd rfl rfl ⟨rfl, by decide, Or.inl Y.gP⟩ takes0
        (fun W pn xe tk _ => pss_one (ps_ret (by exact (pe_callS GR hr rfl gR FR.kp bR (fun σ => passAt tk σ) (by exact (pa_cons (pv 0) (pa_cons (pv 1) (pa_cons (pv 2) pa_nil))))))))
        (fun a oe cls d pn hz hf => pss_one (ps_if (PW.pt (pw_and (pt_val (pe_callB (call_isX Y.exc hz hf) (by rfl) mi (by decide +kernel) (pa_cons (pv 3) (pa_cons (pe_glob (v := .ref C) (by rfl) T.gC rfl) pa_nil))))
            (pw_and (pt_val (pe_callB (call_isX Y.exc hz hf) (by rfl) mi (by decide +kernel) (pa_cons (pv 3) (pa_cons (pe_bltn (v := .ty "ValueError") (by rfl) mV (by decide +kernel) rfl) pa_nil))))
            (pw_and1 (pt_not (pt_val (pe_callB (call_isXT Y.exc hz hf) (by rfl) mi (by decide +kernel) (pa_cons (pv 3) (pa_cons (pe_tup (pa_cons (pe_glob (v := .ref CE) (by rfl) Y.gE rfl) (pa_cons (pe_glob (v := .ref CT) (by rfl) Y.gT rfl) pa_nil))) pa_nil)))))))))
          (pss_one (ps_ret (pe_lstG (pa_cons pe_str (pa_cons (pe_xf Y.xf T.noN hz hf (pv 3)) pa_nil))))) pss_nil)))
      (pss_one (ps_ret (pe_lstG (pa_cons pe_str pa_nil)))), ?_⟩
    refine ⟨.ref p, rfl, .ref t, rfl, v, rfl, N, p, t, pan, st, v, d, rfl, hp, hg, ht, hs, hd, fun hb H1 u s1 hu => ?_, fun e he H1 dd s1 ea => ?_⟩
    · refine q _ u s1 ?_
      unfold dueD
      rw [hb]
      exact dq_ints hu
    · refine ⟨true, Y.m1, fun _ a na => ?_, fun z => Bool.noConfusion z⟩
      have hx : HeldX C (.ref C) (some dd) H1 := ⟨rfl, dd, _, rfl, ea⟩
      refine ⟨.ref a, rfl, hx, .ref C, .ref C, true, rfl, .own C, kit_self, true, rfl, iteT ?_⟩
      refine ⟨.ref a, rfl, hx, .ty "ValueError", _, true, rfl, .ty _, Y.k2, true, rfl, iteT ?_⟩
      refine ⟨.ref a, rfl, by show 2 ≤ sizeLine; decide, fun tp ntp => ?_⟩
      have sT : Same H1 (upd H1 tp (.tup [.ref CE, .ref CT])) := same_new ntp
      refine ⟨⟨rfl, dd, _, rfl, sT _ _ ea⟩, tp, _, [.ref CE, .ref CT], false, rfl, upd_same, .cons (.own CE) (.cons (.own CT) .nil), Y.k3, false, rfl, iteT ?_⟩
      refine ⟨.ref a, rfl, rfl, rfl, dd, _, _, rfl, sT _ _ ea, rfl, by show 2 ≤ sizeLine; decide, fun l nl hl => ?_⟩
      refine q _ l ((s1.trans sT).trans (same_new nl)) ?_
      unfold dueD
      rw [he]
      exact bad_dq kN (s1.trans sT) he nl hl
end
end K03
namespace K03
open PySem PySem.Spec PyProof.Rows L2 Pr
/-- a value of the law -/
def Val (d : PyData) : Prop := Shq 5 20000 d
theorem tup_val {n : Nat} {d : PyData} (h : TupP Low n d) (hn : n ≤ 100) : Val d := by
  obtain ⟨ds, rfl, l, p⟩ := h
  exact (Shq.tuple (m := 100) (fun x hx => (p x hx).shq) (Nat.le_trans l hn)).mono (by decide) (by decide)
theorem lst_val {n : Nat} {d : PyData} (h : LstP Low n d) (hn : n ≤ 100) : Val d := by
  obtain ⟨ds, rfl, l, p⟩ := h
  exact (Shq.list (m := 100) (fun x hx => (p x hx).shq) (Nat.le_trans l hn)).mono (by decide) (by decide)
theorem Low.val {d : PyData} (h : Low d) : Val d := h.shq.mono (by decide) (by decide)
theorem ints_tupP {n : Nat} {l : List Int} (hl : l.length ≤ n) (h : ∀ x ∈ l, 0 ≤ x ∧ x < 100) : TupP Low n (dInts l) := by
  refine ⟨_, rfl, by rw [List.length_map]; exact hl, fun y hy => ?_⟩
  obtain ⟨z, hz, rfl⟩ := List.mem_map.mp hy
  exact low_int (h z hz).1 (h z hz).2
section
variable {K : PySem.W.Frag} {N : Addr → Prop} {σ : L2.St} {H0 : Hp} {P : PyData → Prop} {t : TE}
theorem one_tup {P' : PyData → Prop} (h : Ev K N σ H0 t P) (f : ∀ d, TupP P 1 d → P' d) : Ev K N σ H0 (tTup (tCons t tNil)) P' :=
  ev_tup (eva_cons h (eva_nil AllP.nil)) (fun ds hd => by rw [hd.1]; decide) fun ds hd => f _ ⟨ds, rfl, Nat.le_of_eq hd.1, hd.2⟩
def tV8 (K : PySem.W.Frag) : TA := tCons (tVar 6) (tCons (tCall (spTwin K) [] E0 (tCons (tVar 6) tNil)) (tCons (tVar 6) (tCons (tTup tNil) (tCons (tVar 9) (tCons (tOp (rCatA K) (tVar 9) (tTup (tCons (tC (.int 0)) tNil)))
  (tCons (tOp (rCatA K) (tSl (rSlA K) (tVar 9) tNoPart (tPart (tC (.int 59)))) (tTup (tCons (tC .non) tNil))) (tCons (tCB (rListG K) (tCons (tVar 6) tNil)) tNil)))))))
def tV4 : TA := tCons (tVar 8) (tCons (tC .non) (tCons tDNewK (tCons (tC (.str (Str.ofString "0"))) tNil)))
def tI8 : TA := tCons (tVar 8) (tCons (tVar 4) (tCons (tUn (rU fun i => .int (-i)) (tC (.int 1))) (tCons (tC (.bl true)) (tCons (tC .non) (tCons (tC (.str (Str.ofString "0"))) (tCons (tLstG (tCons (tC (.int 0)) tNil))
  (tCons (tOp (rI CPow fun i j => .int (i ^ j.toNat)) (tC (.int 10)) (tC (.int 39))) tNil)))))))
def tAt : TO := tPart (tVar 7)
def tAt1 : TO := tPart (tOp (rI0 fun i j => .int (i + j)) (tVar 7) (tC (.int 1)))
def tV2 (K : PySem.W.Frag) : TA := tCons (tOp (rCatA K) (tOp (rCatA K) (tSl (rSlA K) (tVar 6) tNoPart tAt) (tTup (tCons (tVar 11) tNil))) (tSl (rSlA K) (tVar 6) tAt tNoPart))
  (tCons (tOp (rCatA K) (tOp (rCatA K) (tOp (rCatA K) (tSl (rSlA K) (tVar 6) tNoPart tAt) (tTup (tCons (tVar 11) tNil))) (tSl (rSlA K) (tVar 6) tAt1 tNoPart)) (tTup (tCons (tC .non) tNil))) tNil)
def tE4 (K : PySem.W.Frag) : TA := tCons (tTup (tCons (tC (.int 0)) tNil)) (tCons (tTup (tCons (tC (.bl false)) tNil)) (tCons (tTup (tCons (tC (.int 0)) tNil)) (tCons (tOp (rRepT K) (tTup (tCons (tC .non) tNil)) (tC (.int 61))) tNil)))
theorem low_non : Low .none := show lowB _ = true by decide +kernel
theorem v8 {r : Addr} {row : List Int} {vl : V} {dl : PyData} (kN : ∀ x, N x → H0 x ≠ none) (h6 : σ[6]? = some (some (.ref r))) (hr : SqT K H0 r (row.map V.int)) (rl : row.length ≤ 12) (rr : ∀ x ∈ row, 0 ≤ x ∧ x < 100)
    (h9 : σ[9]? = some (some vl)) (ql : Dq K N H0 vl dl) (pl : TupP Low 60 dl) : EvA K N σ H0 (tV8 K) (AllP Val 8) := by
  have row' : Ev K N σ H0 (tVar 6) (TupP Low 12) := ev_var 6 h6 (dq_ints hr) (ints_tupP rl rr)
  have long : Ev K N σ H0 (tVar 9) (TupP Low 60) := ev_var 9 h9 ql pl
  have rowV : Ev K N σ H0 (tVar 6) Val := row'.weak fun d h => tup_val h (by decide)
  refine eva_cons rowV (eva_cons ?_ (eva_cons rowV (eva_cons ?_ (eva_cons (long.weak fun d h => tup_val h (by decide)) (eva_cons ?_ (eva_cons ?_ (eva_cons ?_ (eva_nil AllP.nil))))))))
  · intro H Q s k
    exact ⟨.ref r, h6, N, r, row, rfl, same_sqT s hr, by omega, rr, fun H' t d s' qd pd => k _ _ _ s' qd (tup_val pd (by decide))⟩
  · exact ev_tup (eva_nil (R := (· = [])) rfl) (fun _ e => by rw [e]; decide) (fun _ e => by rw [e]; exact Low.val (show lowB _ = true by decide +kernel))
  · exact ev_cat long (one_tup (P := Low) (ev_int (low_int (by decide) (by decide))) fun d h => h) (by decide) fun d h => tup_val h (by decide)
  · exact ev_cat (ev_cut (lo := none) (hi := some 59) long (fun H Q h => h) (fun H Q h => ⟨59, rfl, h⟩) fun d h => h) (one_tup (P := Low) (ev_non low_non) fun d h => h) (by decide) fun d h => tup_val h (by decide)
  · exact ev_list kN row' fun d h => lst_val h (by decide)
theorem v4 {vo : V} {dO : PyData} (h8 : σ[8]? = some (some vo)) (qo : Dq K N H0 vo dO) (lo : Low dO) : EvA K N σ H0 tV4 (AllP Val 4) :=
  eva_cons (ev_var 8 h8 qo (Low.val lo)) (eva_cons (ev_non (Low.val low_non)) (eva_cons (ev_dct0 (Low.val (show lowB _ = true by decide +kernel))) (eva_cons (ev_str (Low.val (show lowB _ = true by decide +kernel))) (eva_nil AllP.nil))))
theorem i8 {vo : V} {dO : PyData} {n : Int} (kN : ∀ x, N x → H0 x ≠ none) (h8 : σ[8]? = some (some vo)) (qo : Dq K N H0 vo dO) (lo : Low dO) (h4 : σ[4]? = some (some (.int n))) (n0 : 0 ≤ n) (n1 : n < 100) : EvA K N σ H0 tI8 (AllP Low 8) :=
  eva_cons (ev_var 8 h8 qo lo) (eva_cons (ev_var 4 h4 (.int n) (low_int n0 n1)) (eva_cons (ev_neg (i := 1) (show lowB _ = true by decide +kernel)) (eva_cons (ev_bl (low_bool true)) (eva_cons (ev_non low_non) (eva_cons (ev_str (show lowB _ = true by decide +kernel))
    (eva_cons (ev_lst kN (eva_consE (d := .int 0) (ev_int rfl) (eva_nil rfl)) (fun _ e => by rw [e]; decide) (fun _ e => by rw [e]; show lowB _ = true; decide +kernel)) (eva_cons (ev_pow (i := 10) (j := 39) ⟨by decide, by decide, by decide⟩ (show lowB _ = true by decide +kernel)) (eva_nil AllP.nil))))))))
theorem v2 {vr vi : V} {dr di : PyData} {at' : Int} (h6 : σ[6]? = some (some vr)) (qr : Dq K N H0 vr dr) (pr : TupP Low 12 dr) (h7 : σ[7]? = some (some (.int at'))) (h11 : σ[11]? = some (some vi)) (qi : Dq K N H0 vi di) (li : Low di) : EvA K N σ H0 (tV2 K) (AllP Val 2) := by
  have row : Ev K N σ H0 (tVar 6) (TupP Low 12) := ev_var 6 h6 qr pr
  have item : Ev K N σ H0 (tVar 11) Low := ev_var 11 h11 qi li
  have at1 : ∀ (H : Hp) (Q : Option Int → Hp → Prop), Q (some at') H → tAt σ H Q := fun H Q h => ⟨_, h7, at', rfl, h⟩
  have at2 : ∀ (H : Hp) (Q : Option Int → Hp → Prop), Q (some (at' + 1)) H → tAt1 σ H Q := fun H Q h => ⟨_, h7, at', 1, rfl, rfl, at' + 1, rfl, h⟩
  have no : ∀ (H : Hp) (Q : Option Int → Hp → Prop), Q none H → tNoPart σ H Q := fun H Q h => h
  have left : Ev K N σ H0 (tSl (rSlA K) (tVar 6) tNoPart tAt) (TupP Low 12) := ev_cut row no at1 fun d h => h
  have left2 : Ev K N σ H0 (tOp (rCatA K) (tSl (rSlA K) (tVar 6) tNoPart tAt) (tTup (tCons (tVar 11) tNil))) (TupP Low 13) := ev_cat left (one_tup item fun d h => h) (by decide) fun d h => h
  refine eva_cons (ev_cat left2 (ev_cut row at1 no fun d h => h) (by decide) fun d h => tup_val h (by decide)) (eva_cons ?_ (eva_nil AllP.nil))
  exact ev_cat (n := 25) (ev_cat left2 (ev_cut row at2 no fun d h => h) (by decide) fun d h => h) (one_tup (P := Low) (ev_non low_non) fun d h => h) (by decide) fun d h => tup_val h (by decide)
theorem e4 : EvA K N σ H0 (tE4 K) (AllP Val 4) := by
  have z : Ev K N σ H0 (tTup (tCons (tC (.int 0)) tNil)) Val := one_tup (P := Low) (ev_int (low_int (by decide) (by decide))) fun d h => tup_val h (by decide)
  refine eva_cons z (eva_cons (one_tup (P := Low) (ev_bl (low_bool false)) fun d h => tup_val h (by decide)) (eva_cons z (eva_cons ?_ (eva_nil AllP.nil))))
  exact ev_rep (n := 1) (P := Low) (ev_tup (eva_cons (ev_non low_non) (eva_nil AllP.nil)) (fun ds hd => by rw [hd.1]; decide) fun ds hd => ⟨⟨ds, rfl, Nat.le_of_eq hd.1, hd.2⟩, fun e => by
    have e' : ds = [] := PyData.tuple.inj e
    rw [e'] at hd
    exact absurd hd.1 (by decide)⟩) (by decide) (by decide) (by decide) fun d h => tup_val h (by decide)
end
/-! ### reaching displays -/
theorem asg_cat {t1 : TE} {t : TA} {g : TG} {u : TS} {D : Ends} {σ : L2.St} {H : Hp} (h : t1 σ H fun x H1 => t σ H1 fun xs H2 => xs.length ≤ sizeLine ∧ ∀ p, H2 p = none → rCat x (.ref p) (upd H2 p (.lst xs)) fun y H3 => g y σ H3 (u D)) : tSeq (tAsg (tOp rCat t1 (tLst t)) g) u D σ H := h
theorem asg_cat1 {t1 : TE} {t : TA} {g : TG} {D : Ends} {σ : L2.St} {H : Hp} (h : t1 σ H fun x H1 => t σ H1 fun xs H2 => xs.length ≤ sizeLine ∧ ∀ p, H2 p = none → rCat x (.ref p) (upd H2 p (.lst xs)) fun y H3 => g y σ H3 D.nx) : tAsg (tOp rCat t1 (tLst t)) g D σ H := h
theorem il_lst {K : PySem.W.Frag} {t : TA} {σ : L2.St} {H : Hp} {R : It → Hp → Prop} (h : t σ H fun xs H1 => xs.length ≤ sizeLine ∧ ∀ p, H1 p = none → ∃ a, V.ref p = V.ref a ∧ (∃ ys, SqL K (upd H1 p (.lst xs)) a ys) ∧ R (Itl K a) (upd H1 p (.lst xs))) : iList K (tLst t) σ H R := h
theorem il_cat {K : PySem.W.Frag} {t1 : TE} {t : TA} {σ : L2.St} {H : Hp} {R : It → Hp → Prop} (h : t1 σ H fun x H1 => t σ H1 fun xs H2 => xs.length ≤ sizeLine ∧ ∀ p, H2 p = none → rCat x (.ref p) (upd H2 p (.lst xs)) fun y H3 => ∃ a, y = V.ref a ∧ (∃ ys, SqL K H3 a ys) ∧ R (Itl K a) H3) : iList K (tOp rCat t1 (tLst t)) σ H R := h
theorem seq_for {wi : TI} {g : TG} {tb u : TS} {D : Ends} {σ : L2.St} {H : Hp} (h : wi σ H fun J H1 => tFor (fun _ _ R => R J H1) g tb { D with nx := u D } σ H1) : tSeq (tFor wi g tb) u D σ H := h
theorem one_for {wi : TI} {g : TG} {tb : TS} {D : Ends} {σ : L2.St} {H : Hp} (h : wi σ H fun J H1 => tFor (fun _ _ R => R J H1) g tb D σ H1) : tFor wi g tb D σ H := h
theorem nx_for {wi : TI} {g : TG} {tb : TS} {D : Ends} {σ : L2.St} {H : Hp} {a3 a4 : L2.St → Hp → Prop} {a2 : VK} (h : wi σ H fun J H1 => tFor (fun _ _ R => R J H1) g tb D σ H1) : Ends.nx { nx := tFor wi g tb D, rt := a2, bk := a3, ct := a4 } σ H := h
theorem use_eva {K : PySem.W.Frag} {N : Addr → Prop} {σ : L2.St} {H H0 : Hp} {t : TA} {R : List PyData → Prop} {Q : List V → Hp → Prop} (h : EvA K N σ H0 t R) (s : Same H0 H) (k : ∀ vs ds H', Same H H' → DqAll K N H' vs ds → R ds → Q vs H') : t σ H Q := h H Q s k
theorem gn {i : Nat} {v : V} {σ : L2.St} {H : Hp} {a1 a3 a4 : L2.St → Hp → Prop} {a2 : VK} (h : a1 (σ.set i (some v)) H) : gName i v σ H (Ends.nx { nx := a1, rt := a2, bk := a3, ct := a4 }) := h
theorem gn0 {i : Nat} {v : V} {σ : L2.St} {H : Hp} {D : L2.St → Hp → Prop} (h : D (σ.set i (some v)) H) : gName i v σ H D := h
theorem Deck.kn {H : Hp} {a c : Addr} {m : Nat} (D : Deck H a c m) : H a ≠ none ∧ H c ≠ none := by
  obtain ⟨_, _, e1, e2, _⟩ := D
  exact ⟨by rw [e1]; simp, by rw [e2]; simp⟩
theorem PanAt.dq {K : PySem.W.Frag} {N : Addr → Prop} {H : Hp} {p : Addr} {pan : List (List Int)} (h : PanAt H p pan) : Dq K N H (.ref p) (dPan pan) := by
  obtain ⟨qs, h1, h2⟩ := h
  exact .tup h1.sq (dqAll_pan h2)
theorem dq_upd {K : PySem.W.Frag} {N : Addr → Prop} {H : Hp} {T : Addr} {ys zs : List V} (nT : N T) (e : H T = some (.lst ys)) {vs : List V} {ds : List PyData} (h : DqAll K N H vs ds) : DqAll K N (upd H T (.lst zs)) vs ds := by
  refine Dq.keepAll (fun l o hl q => ?_) (fun l xs q => ?_) (fun l kvs q => ?_) ds vs h
  · rw [upd_ne (fun z => hl (by rw [z]; exact nT))]; exact q
  · rcases q with (q | ⟨o, q⟩) | q
    · exact .inl (.inl (by rw [upd_ne (ne_of q e (by intro z; cases z))]; exact q))
    · exact .inl (.inr ⟨o, by rw [upd_ne (ne_of q e (by intro z; cases z))]; exact q⟩)
    · exact .inr q
  · rw [upd_ne (ne_of q e (by intro z; cases z))]; exact q
/-- all are values of the law -/
def VL (K : PySem.W.Frag) (H : Hp) (W : List V) : Prop := ∀ x ∈ W, ∃ d, Dq K (fun _ => False) H x d ∧ Val d
theorem VL.same {K : PySem.W.Frag} {H H' : Hp} {W : List V} (s : Same H H') (h : VL K H W) : VL K H' W := fun x hx => by
  obtain ⟨d, q, p⟩ := h x hx
  exact ⟨d, Dq.same s d x q, p⟩
theorem VL.of {K : PySem.W.Frag} {H : Hp} {vs : List V} {ds : List PyData} {n : Nat} (h : DqAll K (fun _ => False) H vs ds) (p : AllP Val n ds) : VL K H vs := fun x hx => by
  obtain ⟨i, hi⟩ := List.getElem?_of_mem hx
  obtain ⟨d, hd, q⟩ := h.get i x hi
  exact ⟨d, q, p.2 d (List.mem_of_getElem? hd)⟩
theorem VL.app {K : PySem.W.Frag} {H : Hp} {V1 W : List V} (h : VL K H V1) (g : VL K H W) : VL K H (V1 ++ W) := fun x hx => (List.mem_append.mp hx).elim (h x) (g x)
/-- what is due is short -/
theorem due_shw {pan : List (List Int)} {st : List Int} {d : PyData} (few : pan.length ≤ 10) (h : Asc pan.length st) : Shw 1 60 (dueD pan st d) := by
  unfold dueD
  cases he : rowBad (pan.length : Int) d with
  | none =>
    have ha := runM_asc (row := rowI d) h
    have hl := ha.len
    refine (shw_ints (m := 10) (by omega) fun x hx => ?_).mono (by decide) (by decide)
    have := ha.rng x hx
    omega
  | some e =>
    refine (Shw.list (dep := 0) (n := 20) (m := 2) (fun x hx => ?_) (Nat.le_refl _)).mono (by decide) (by decide)
    rcases List.mem_cons.mp hx with rfl | hx
    · exact ⟨by decide +kernel, by decide +kernel, by decide +kernel, by decide +kernel⟩
    · obtain rfl := List.mem_singleton.mp hx
      rcases rowBad_some he with rfl | ⟨i, rfl, h0, h1⟩
      · exact ⟨by decide +kernel, by decide +kernel, by decide +kernel, by decide +kernel⟩
      · exact (Shw.int (k := 2) h0 (by decide) (by decide) (by omega)).mono (by decide) (by decide)
theorem shq_psv {pan : List (List Int)} {st : List Int} {d : PyData} (g : Good pan) (h : Asc pan.length st) (v : Val d) : Shq 60 sizeLine (.list [dPan pan, dInts st, d]) := by
  refine (Shq.list (dep := 5) (n := 20000) (m := 3) (fun x hx => ?_) (Nat.le_refl _)).mono (by decide) (by decide)
  have few := g.few
  have hl := h.len
  rcases List.mem_cons.mp hx with rfl | hx
  · exact g.shw.q.mono (by decide) (by decide)
  rcases List.mem_cons.mp hx with rfl | hx
  · refine (shw_ints (m := 10) (by omega) fun x hx => ?_).q.mono (by decide) (by decide)
    have := h.rng x hx
    omega
  · obtain rfl := List.mem_singleton.mp hx
    exact v
end K03
namespace K03
open PySem PySem.Spec PyProof.Rows L2 Pr
def nLaw : List Str := ["_law_script", "_law_deck_here", "_law_turn", "_law_panel_here", "_law_count", "_law_state_here", "_law_row_here", "_law_at", "_law_odd_here", "_law_long", "_law_values", "_law_item", "_law_value", "_law_before", "_law_due_here", "_law_found", "_law_k", "_law_again"]
theorem scLaw : FnScope nLaw ["_law_script"] (defScope sLaw) := ⟨rfl, rfl, rfl, by decide +kernel, rfl, by decide +kernel, by decide +kernel⟩
theorem pick3 {y : Int} (h0 : 0 ≤ y) (h1 : y < 3) : ∃ v : Int, atI [V.int 10, .int 3, .int 6] y = some (.int v) ∧ 1 ≤ v ∧ v ≤ 10 := by
  obtain rfl | rfl | rfl : y = 0 ∨ y = 1 ∨ y = 2 := by omega
  · exact ⟨10, rfl, by decide, by decide⟩
  · exact ⟨3, rfl, by decide, by decide⟩
  · exact ⟨6, rfl, by decide, by decide⟩
section
variable {P : Program} {w : World} {K : PySem.W.Frag} {mg : Str → Option Value} {base : Heap}
def spLaw (K : PySem.W.Frag) : Sp := fun vs H Q _ => ∃ (s : Addr) (ns : List Int), vs = [.ref s] ∧ SqL K H s (ns.map V.int) ∧ ns.length ≤ 63 ∧ ∀ H', Q (.bl true) H'
theorem ok_law {f f1 f2 f3 f4 f5 f6 f7 f8 f9 fa fb fc fe fg fh C CP CE CT fI : Addr} {fd d1 d2 d3 d4 d5 d6 d7 d8 d9 da db dc de dg dh dI : FuncData} {tk : Tok} (F : Fun K "law" "law" sLaw f fd)
    (F1 : Fun K "is_button" "is_button" sBtn f1 d1) (b1 : Binds K d1 ["value", "many"] []) (g1 : mg "is_button" = some (.ref f1))
    (F2 : Fun K "press_button" "press_button" sPress f2 d2) (b2 : Binds K d2 ["panel", "state", "button"] []) (g2 : mg "press_button" = some (.ref f2))
    (F3 : Fun K "check_row" "check_row" sChk f3 d3) (b3 : Binds K d3 ["panel", "value"] []) (g3 : mg "check_row" = some (.ref f3))
    (F4 : Fun K "run" "run" sRun f4 d4) (b4 : Binds K d4 ["panel", "state", "value"] []) (g4 : mg "run" = some (.ref f4))
    (F5 : Fun K "_law_deck" "_law_deck" sDeck f5 d5) (b5 : Binds K d5 ["_law_script"] []) (g5 : mg "_law_deck" = some (.ref f5))
    (F6 : Fun K "_law_draw" "_law_draw" sDraw f6 d6) (b6 : Binds K d6 ["_law_deck_here", "_law_limit"] []) (g6 : mg "_law_draw" = some (.ref f6))
    (F7 : Fun K "_law_same" "_law_same" sSame f7 d7) (b7 : Binds K d7 ["_law_value", "_law_due_here"] []) (g7 : mg "_law_same" = some (.ref f7))
    (F8 : Fun K "_law_is_number" "_law_is_number" sIsNum f8 d8) (b8 : Binds K d8 ["_law_value", "_law_low", "_law_high"] []) (g8 : mg "_law_is_number" = some (.ref f8))
    (F9 : Fun K "_law_panel" "_law_panel" sPanel f9 d9) (b9 : Binds K d9 ["_law_deck_here", "_law_most"] []) (g9 : mg "_law_panel" = some (.ref f9))
    (Fa : Fun K "_law_state" "_law_state" sState fa da) (ba : Binds K da ["_law_deck_here", "_law_count"] []) (ga : mg "_law_state" = some (.ref fa))
    (Fb : Fun K "_law_row" "_law_row" sRow fb db) (bb : Binds K db ["_law_deck_here", "_law_count", "_law_most"] []) (gb : mg "_law_row" = some (.ref fb))
    (Fc : Fun K "_law_pressed" "_law_pressed" sPressed fc dc) (bc : Binds K dc ["_law_panel_here", "_law_state_here", "_law_row_here"] []) (gc : mg "_law_pressed" = some (.ref fc))
    (Fe : Fun K "_law_odd" "_law_odd" sOdd fe de) (be : Binds K de ["_law_deck_here"] []) (ge : mg "_law_odd" = some (.ref fe))
    (Fg : Fun K "_law_twin" "_law_twin" sTwin fg dg) (bg : Binds K dg ["_law_row_here"] []) (gg : mg "_law_twin" = some (.ref fg))
    (Fh : Fun K "_law_due" "_law_due" sDue fh dh) (bh : Binds K dh ["_law_panel_here", "_law_state_here", "_law_value"] []) (gh : mg "_law_due" = some (.ref fh))
    {ft : Addr} {dt : FuncData} (Ft : Fun K "_law_told" "_law_told" sTold ft dt) (bt : Binds K dt ["_law_panel_here", "_law_state_here", "_law_value"] []) (gt : mg "_law_told" = some (.ref ft))
    (ml : mg "len" = none) (mr : mg "range" = none) (mt : mg "tuple" = none) (me : mg "enumerate" = none) (ma : mg "abs" = none) (mp : mg "repr" = none) (mi : mg "isinstance" = none) (mb : mg "bool" = none) (mn : mg "int" = none)
    (mL : mg "list" = none) (mS : mg "sorted" = none) (mV : mg "ValueError" = none) (mM : mg "MAX_ROW" = some (.int 60 tk)) (T : BadTxt K mg C fI dI) (Y : TryTxt K mg C CP CE CT) : FnG P w K mg base 6 f fd ["_law_script"] (spLaw K) := by
  have G5 : FnOk P w K mg base CX0 1 f5 d5 ["_law_script"] (spDeck K) := ok_deck F5 ma
  have G6 : FnOk P w K mg base CX0 1 f6 d6 ["_law_deck_here", "_law_limit"] spDraw := ok_draw F6 ml
  have G7 : FnG P w K mg base 1 f7 d7 ["_law_value", "_law_due_here"] (spSame K) := ok_same F7 mp
  have G9 : FnOk P w K mg base CX0 2 f9 d9 ["_law_deck_here", "_law_most"] spPanel := ok_panel F9 F6 b6 g6 ml mr mt
  have Ga : FnOk P w K mg base CX0 2 fa da ["_law_deck_here", "_law_count"] spState := ok_state Fa F6 b6 g6 ml mr mt
  have Gb : FnOk P w K mg base CX0 2 fb db ["_law_deck_here", "_law_count", "_law_most"] spRow := ok_row Fb F6 b6 g6 ml mr mt
  have Ge : FnOk P w K mg base CX0 2 fe de ["_law_deck_here"] (spOdd K) := ok_odd Fe F6 b6 g6 ml
  have Gg : FnOk P w K mg base CX0 1 fg dg ["_law_row_here"] (spTwin K) := ok_twin Fg mt mn
  have Gh : FnOk P w K mg base CX0 2 fh dh ["_law_panel_here", "_law_state_here", "_law_value"] (spDue K) := ok_due Fh F8 b8 g8 Fc bc gc mi mb mn mt ml mr me
  have Gt : FnOk P w K mg base CX0 5 ft dt ["_law_panel_here", "_law_state_here", "_law_value"] (spTold K) := ok_told Ft T Y F4 b4 g4 F3 b3 g3 F1 b1 g1 F2 b2 g2 mM mi mb mn mt ml me mS mV
  refine okG F scLaw (fun vs H Q E h => ?_) (fun cdv A outer s H vs Q E gd hr h => ?_)
  · obtain ⟨s, ns, rfl, _⟩ := h
    rfl
  · obtain ⟨sc, ns, rfl, hS, hlen, q⟩ := h
    refine ⟨_, pss_cons (ps_set (i := 1) scLaw.nd rfl (.inr rfl) (pe_call G5 (hr.mono (by decide)) (by rfl) g5 F5.kp b5 .nil pass0 (pa_cons (pv 0) pa_nil)))
      (pss_cons (ps_for PassesOwn.never rfl (pi_range1 (by rfl) mr (pa_cons pe_int pa_nil)) (pg_name (i := 2) scLaw.nd rfl (.inl rfl))
        (pss_cons (ps_set (i := 3) scLaw.nd rfl (.inr rfl) (pe_call G9 (hr.mono (by decide)) (by rfl) g9 F9.kp b9 .nil pass0 (pa_cons (pv 1) (pa_cons (pe_ix ix_list (pe_lst (pa_cons pe_int (pa_cons pe_int (pa_cons pe_int pa_nil)))) (pe_op op_mod (pv 2) pe_int) (fun _ _ => rfl)) pa_nil))))
        (pss_cons (ps_set (i := 4) scLaw.nd rfl (.inr rfl) (pe_callB call_len_seq (by rfl) ml PySem.boot_len (pa_cons (pv 3) pa_nil)))
        (pss_cons (ps_asg (pe_tup (pa_cons (pe_call Ga (hr.mono (by decide)) (by rfl) ga Fa.kp ba .nil pass0 (pa_cons (pv 1) (pa_cons (pv 4) pa_nil))) (pa_cons (pe_call Gb (hr.mono (by decide)) (by rfl) gb Fb.kp bb .nil pass0 (pa_cons (pv 1) (pa_cons (pv 4) (pa_cons pe_int pa_nil)))) pa_nil)))
            (pg_tup rfl (pgs_cons (pg_name (i := 5) scLaw.nd rfl (.inr rfl)) (pgs_cons (pg_name (i := 6) scLaw.nd rfl (.inl rfl)) pgs_nil))))
        (pss_cons (ps_par (i := 7) (j := 8) rfl scLaw.nd rfl rfl (by decide) rfl rfl (pa_cons (pe_call G6 (hr.mono (by decide)) (by rfl) g6 F6.kp b6 .nil pass0 (pa_cons (pv 1) (pa_cons (pe_op op_add (pe_callB call_len_seq (by rfl) ml PySem.boot_len (pa_cons (pv 6) pa_nil)) pe_int) pa_nil)))
            (pa_cons (pe_call Ge (hr.mono (by decide)) (by rfl) ge Fe.kp be .nil pass0 (pa_cons (pv 1) pa_nil)) pa_nil)) (by rfl))
        (pss_cons (ps_set (i := 9) scLaw.nd rfl (.inl rfl) (pe_callTy (show CallR _ _ (rTupF K) from call_tupF) (by rfl) mt (by decide +kernel) (pa_cons (pe_lc (own := [("_law_k", 16)]) (g := gName 16) (tt := tYes) rfl scLaw.nd (pi_range1 (by rfl) mr (pa_cons pe_int pa_nil))
            (blkOk_by (own := [("_law_k", 16)]) (N := nLaw) (sc := defScope sLaw) (by decide +kernel)) (fun _ _ _ _ _ => pg_name (i := 16) scLaw.nd rfl (Or.inl rfl)) (fun _ _ _ _ _ => pts_nil)
            (fun _ _ _ _ _ => pe_call G6 (hr.mono (by decide)) (by rfl) g6 F6.kp b6 .nil pass0 (pa_cons (pv 1) (pa_cons (pv 4) pa_nil)))) pa_nil)))
        (pss_cons (ps_set (i := 10) scLaw.nd rfl (.inl rfl) (pe_lst (pa_cons (pv 6) (pa_cons (pe_call Gg (hr.mono (by decide)) (by rfl) gg Fg.kp bg .nil pass0 (pa_cons (pv 6) pa_nil)) (pa_cons (pv 6) (pa_cons (pe_tup pa_nil) (pa_cons (pv 9)
            (pa_cons (pe_op (show OpR _ _ (rCatA K) from op_catA) (pv 9) (pe_tup (pa_cons pe_int pa_nil))) (pa_cons (pe_op (show OpR _ _ (rCatA K) from op_catA) (pe_slice (show SlR _ (rSlA K) from sl_tupA) (pv 9) po_none (po_some pe_int)) (pe_tup (pa_cons pe_non pa_nil)))
            (pa_cons (pe_callTy (show CallR _ _ (rListG K) from call_listG) (by rfl) mL (by decide +kernel) (pa_cons (pv 6) pa_nil)) pa_nil))))))))))
        (pss_cons (ps_set (i := 10) scLaw.nd rfl (.inl rfl) (pe_op op_cat (pv 10) (pe_lst (pa_cons (pv 8) (pa_cons pe_non (pa_cons pe_dnewK (pa_cons pe_str pa_nil)))))))
        (pss_cons (ps_for PassesOwn.never rfl (pi_list (pe_lst (pa_cons (pv 8) (pa_cons (pv 4) (pa_cons (pe_un un_neg pe_int) (pa_cons pe_bl (pa_cons pe_non (pa_cons pe_str (pa_cons (pe_lstG (pa_cons pe_int pa_nil)) (pa_cons (pe_op op_pow pe_int pe_int) pa_nil)))))))))) (pg_name (i := 11) scLaw.nd rfl (.inl rfl))
          (pss_one (ps_set (i := 10) scLaw.nd rfl (.inl rfl) (pe_op op_cat (pv 10) (pe_lst
            (pa_cons (pe_op (show OpR _ _ (rCatA K) from op_catA) (pe_op (show OpR _ _ (rCatA K) from op_catA) (pe_slice (show SlR _ (rSlA K) from sl_tupA) (pv 6) po_none (po_some (pv 7))) (pe_tup (pa_cons (pv 11) pa_nil))) (pe_slice (show SlR _ (rSlA K) from sl_tupA) (pv 6) (po_some (pv 7)) po_none))
            (pa_cons (pe_op (show OpR _ _ (rCatA K) from op_catA) (pe_op (show OpR _ _ (rCatA K) from op_catA) (pe_op (show OpR _ _ (rCatA K) from op_catA) (pe_slice (show SlR _ (rSlA K) from sl_tupA) (pv 6) po_none (po_some (pv 7))) (pe_tup (pa_cons (pv 11) pa_nil))) (pe_slice (show SlR _ (rSlA K) from sl_tupA) (pv 6) (po_some (pe_op op_add (pv 7) pe_int)) po_none)) (pe_tup (pa_cons pe_non pa_nil))) pa_nil)))))))
        (pss_one (ps_for PassesOwn.never rfl (pi_list (pe_op op_cat (pv 10) (pe_lst (pa_cons (pe_tup (pa_cons pe_int pa_nil)) (pa_cons (pe_tup (pa_cons pe_bl pa_nil)) (pa_cons (pe_tup (pa_cons pe_int pa_nil)) (pa_cons (pe_op (show OpR _ _ (rRepT K) from op_repT) (pe_tup (pa_cons pe_non pa_nil)) pe_int) pa_nil))))))) (pg_name (i := 12) scLaw.nd rfl (.inr rfl))
          (pss_cons (ps_par (i := 13) (j := 14) rfl scLaw.nd rfl rfl (by decide) rfl rfl (pa_cons (pe_callB (call_reprQ gd hr) (by rfl) mp (by decide +kernel) (pa_cons (pe_lstG (pa_cons (pv 3) (pa_cons (pv 5) (pa_cons (pv 12) pa_nil)))) pa_nil))
              (pa_cons (pe_call Gh (hr.mono (by decide)) (by rfl) gh Fh.kp bh .nil pass0 (pa_cons (pv 3) (pa_cons (pv 5) (pa_cons (pv 12) pa_nil)))) pa_nil)) (by rfl))
          (pss_cons (ps_setLc (i := 15) (own := [("_law_again", 17)]) (g := gName 17) (tt := tYes) rfl scLaw.nd rfl rfl (sw_true rfl rfl rfl (by decide +kernel)) (pi_range1 (by rfl) mr (pa_cons pe_int pa_nil))
              (blkOk_by (own := [("_law_again", 17)]) (N := nLaw) (sc := defScope sLaw) (by decide +kernel)) (fun _ _ _ _ _ => pg_name (i := 17) scLaw.nd rfl (Or.inl rfl)) (fun _ _ _ _ _ => pts_nil)
              (fun _ _ _ _ _ => pe_call Gt hr (by rfl) gt Ft.kp bt .nil pass0 (pa_cons (pv 3) (pa_cons (pv 5) (pa_cons (pv 12) pa_nil)))))
          (pss_one (ps_if (PW.pt (pw_or (pt_not (pt_val (pe_callG G7 gd (hr.mono (by decide)) (by rfl) g7 F7.kp b7 (pa_cons (pv 15) (pa_cons (pe_lst (pa_cons (pv 14) (pa_cons (pv 14) pa_nil))) pa_nil)))))
                (pw_or1 (pt_cmpR op_ne (pe_callB (call_reprQ gd hr) (by rfl) mp (by decide +kernel) (pa_cons (pe_lstG (pa_cons (pv 3) (pa_cons (pv 5) (pa_cons (pv 12) pa_nil)))) pa_nil)) (pv 13) (nomark _)))))
              (pss_one (ps_ret pe_bl)) pss_nil)))))))))))))))
      (pss_one (ps_ret pe_bl))), ?_⟩
    refine ⟨.ref sc, rfl, sc, ns, rfl, hS, hlen, fun H1 a c s1 D1 => ?_⟩
    refine ⟨6, rfl, by decide, by decide, ?_⟩
    refine for_range (n := 6) (fun i σ H2 => Deck H2 a c (4000 - 400 * i) ∧ ∃ x2 x3 x4 x5 x6 x7 x8 x9 x10 x11 x12 x13 x14 x15 x16 x17, σ = [some (.ref sc), some (.ref a), x2, x3, x4, x5, x6, x7, x8, x9, x10, x11, x12, x13, x14, x15, x16, x17])
      ⟨D1.less (by omega), none, none, none, none, none, none, none, none, none, none, none, none, none, none, none, none, rfl⟩ (fun i σ H2 hi hP => ?_) (fun σ H2 hP => ?_)
    · obtain ⟨D2, x2, x3, x4, x5, x6, x7, x8, x9, x10, x11, x12, x13, x14, x15, x16, x17, rfl⟩ := hP
      obtain ⟨v, hv, v1, v10⟩ := pick3 (y := (0 + (i : Int)) % 3) (Int.emod_nonneg _ (by decide)) (Int.emod_lt_of_pos _ (by decide))
      refine ⟨.ref a, rfl, by show 3 ≤ sizeLine; decide, fun L0 nL0 => ⟨.int (0 + (i : Int)), rfl, _, 3, rfl, rfl, (by show (0 : Int) < 3; decide), L0, _, _, .int v, rfl, rfl, .inl (.inl upd_same), hv, a, c, 3800 - 400 * i, v, rfl,
        (D2.same (same_new nL0)).less (by omega), v1, v10, fun H3 p pan b3 D3 hp hg => ?_⟩⟩
      have few := hg.few
      have pos := hg.pos
      obtain ⟨qs, hq, hqs⟩ := id hp
      have hl : (qs.map V.ref).length = pan.length := by rw [List.length_map, hqs.length]
      refine ⟨.ref p, rfl, p, _, rfl, .inr hq.sq, ?_⟩
      rw [hl]
      -- state, row
      refine ⟨.ref a, rfl, .int (pan.length : Int), rfl, a, c, 3780 - 400 * i, pan.length, rfl, D3.less (by omega), few, fun H4 t st b4 D4 ht hs => ?_⟩
      refine ⟨.ref a, rfl, .int (pan.length : Int), rfl, a, c, 3760 - 400 * i, pan.length, rfl, D4.less (by omega), pos, few, fun H5 r row b5 D5 hr' rl rr => ?_⟩
      refine ⟨by show 2 ≤ sizeLine; decide, fun U nU => ?_⟩
      refine ⟨U, _, rfl, .inl (.inl upd_same), rfl, _, _, rfl, _, _, rfl, rfl, ?_⟩
      have sU : Same H5 (upd H5 U (.tup [.ref t, .ref r])) := same_new nU
      have D5' := D5.same sU
      have hp5 := ((hp.but D3 b4).but D4 b5).same sU
      have ht5 := (ht.but D4 b5).same sU
      have hr5 := hr'.same sU
      -- at, odd
      refine ⟨.ref a, rfl, .ref r, rfl, r, _, rfl, .inr hr5.sq, _, 1, rfl, rfl, a, c, 3759 - 400 * i, _, rfl, D5'.less (by omega), by omega, by rw [List.length_map]; omega, fun H6 at' b6 D6 a0 a1 => ?_⟩
      have kn6 := Deck.kn D6
      refine ⟨.ref a, rfl, (fun x => x = a ∨ x = c), a, c, 3758 - 400 * i, rfl, D6.less (by omega), .inl rfl, .inr rfl, fun x hx => hx.elim (fun e => by rw [e]; exact kn6.1) (fun e => by rw [e]; exact kn6.2), fun H7 vo dO b7 D7 qo lo => ⟨_, _, rfl, ?_⟩⟩
      have hp7 := (hp5.but D5' b6).but D6 b7
      have ht7 := (ht5.but D5' b6).but D6 b7
      have hr7 := (hr5.but D5' b6).but D6 b7
      -- long
      refine ⟨60, rfl, by decide, by decide, fun D nD => ?_⟩
      have oD := D7.fresh nD
      refine lc_range (n := 60) (fun j H8 => But a c H7 H8 ∧ Deck H8 a c (3758 - 400 * i - j) ∧ ∃ acc : List Int, H8 D = some (.lst (acc.map V.int)) ∧ acc.length = j ∧ ∀ x ∈ acc, 0 ≤ x ∧ x < (pan.length : Int))
        ⟨But.of (same_new nD), (D7.same (same_new nD)).less (by omega), [], upd_same, rfl, fun x h => by cases h⟩ (fun j H8 hj hP => ?_) (fun H8 hP => ?_)
      · obtain ⟨b8, D8, acc, eD, al, am⟩ := hP
        refine ⟨rfl, tyes (iteT ⟨.ref a, rfl, .int (pan.length : Int), rfl, a, c, 3758 - 400 * i - (j + 1), (pan.length : Int), rfl, D8.less (by omega), by omega, by omega, fun H9 y b9' D9 y0 y1 => ⟨_, b9' _ _ oD.1 oD.2 eD, by rw [List.length_map]; exact small1000 (by omega), ?_, ?_, acc ++ [y], ?_, ?_, ?_⟩⟩)⟩
        · intro b o h1 h2 e
          rw [upd_ne (ne_of_none e nD)]
          exact b9' _ _ h1 h2 (b8 _ _ h1 h2 e)
        · obtain ⟨cs, n', e1, e2, e3⟩ := D9
          exact ⟨cs, n', by rw [upd_ne (Ne.symm oD.1)]; exact e1, by rw [upd_ne (Ne.symm oD.2)]; exact e2, e3⟩
        · rw [upd_same, List.map_append]; rfl
        · rw [List.length_append, al]; rfl
        · intro x hx
          rcases List.mem_append.mp hx with h | h
          · exact am x h
          · rw [List.mem_singleton.mp h]; exact ⟨y0, y1⟩
      · obtain ⟨b8, D8, long, eD, al, am⟩ := hP
        refine ⟨D, _, rfl, .inl (.inl eD), fun g o ng ho => ?_⟩
        have sg : Same H8 (upd H8 g (.frz o (.tup (long.map V.int)))) := same_new ng
        have hg9 : FT (upd H8 g (.frz o (.tup (long.map V.int)))) g (long.map V.int) := ⟨o, upd_same, ho⟩
        have D9 := (D8.same sg).less (show 4000 - 400 * (i + 1) ≤ 3758 - 400 * i - 60 by omega)
        have hp9 := (hp7.but D7 b8).same sg
        have ht9 := (ht7.but D7 b8).same sg
        have hr9 := (hr7.but D7 b8).same sg
        have qo9 : Dq K (fun _ => False) (upd H8 g (.frz o (.tup (long.map V.int)))) vo dO := Dq.weak (fun _ h => h.elim) dO vo (Dq.same sg dO vo (qo.but (.inl rfl) (.inr rfl) D7 b8))
        generalize upd H8 g (.frz o (.tup (long.map V.int))) = H9 at hg9 D9 hp9 ht9 hr9 qo9 ⊢
        have rr' : ∀ x ∈ row, 0 ≤ x ∧ x < 100 := fun x hx => by have := rr x hx; omega
        have am' : ∀ x ∈ long, 0 ≤ x ∧ x < 100 := fun x hx => by have := am x hx; omega
        have kF : ∀ x : Addr, (fun _ => False : Addr → Prop) x → H9 x ≠ none := fun _ h => h.elim
        have dl : Dq K (fun _ => False) H9 (.ref g) (dInts long) := dq_ints hg9.sq
        have dr : Dq K (fun _ => False) H9 (.ref r) (dInts row) := dq_ints hr9.sq
        -- values
        refine gn (asg_lst ?_)
        refine use_eva (K := K) (N := fun _ => False) (H0 := H9) (t := tV8 K) (R := AllP Val 8) (v8 kF rfl hr9.sq rl rr' rfl dl (ints_tupP (by omega) am')) (Same.refl _) fun w8 e8 Ha sa q8 p8 => ?_
        refine ⟨by rw [q8.length, p8.1]; decide, fun L nL => ?_⟩
        have s9L : Same H9 (upd Ha L (.lst w8)) := sa.trans (same_new nL)
        refine gn0 (asg_cat ⟨.ref L, rfl, ?_⟩)
        refine use_eva (K := K) (N := fun _ => False) (H0 := H9) (t := tV4) (R := AllP Val 4) (v4 rfl qo9 lo) s9L fun w4 e4' Hb sb q4 p4 => ?_
        refine ⟨by rw [q4.length, p4.1]; decide, fun L' nL' => ⟨L, L', _, _, rfl, rfl, same_new nL' _ _ (sb _ _ upd_same), upd_same, by rw [q8.length, p8.1, q4.length, p4.1]; decide, fun M nM => ?_⟩⟩
        have sM : Same Hb (upd (upd Hb L' (.lst w4)) M (.lst (w8 ++ w4))) := (same_new nL').trans (same_new nM)
        have s9M := (s9L.trans sb).trans sM
        have VM : VL K (upd (upd Hb L' (.lst w4)) M (.lst (w8 ++ w4))) (w8 ++ w4) := ((VL.of q8 p8).same (((same_new nL).trans sb).trans sM)).app ((VL.of q4 p4).same sM)
        have lM : (w8 ++ w4).length = 12 := by rw [List.length_append, q8.length, p8.1, q4.length, p4.1]
        have eM : (upd (upd Hb L' (.lst w4)) M (.lst (w8 ++ w4))) M = some (.lst (w8 ++ w4)) := upd_same
        generalize upd (upd Hb L' (.lst w4)) M (.lst (w8 ++ w4)) = Hc at s9M VM eM ⊢
        generalize w8 ++ w4 = W at VM lM eM
        -- items
        refine gn0 (seq_for (il_lst (K := K) ?_))
        refine use_eva (K := K) (N := fun _ => False) (H0 := H9) (t := tI8) (R := AllP Low 8) (i8 kF rfl qo9 lo rfl (by omega) (by omega)) s9M fun wi ei Hd sd qi pi => ?_
        refine ⟨by rw [qi.length, pi.1]; decide, fun I nI => ⟨I, rfl, ⟨wi, .inl (.inl upd_same)⟩, ?_⟩⟩
        have sI : Same Hc (upd Hd I (.lst wi)) := sd.trans (same_new nI)
        have eI : (upd Hd I (.lst wi)) I = some (.lst wi) := upd_same
        have s9I := s9M.trans sI
        have qi' := Dq.sameAll (same_new nI (o := .lst wi)) ei wi qi
        have VI := VM.same sI
        have eMI := sI _ _ eM
        generalize upd Hd I (.lst wi) = He at eI s9I qi' VI eMI ⊢
        refine for_list (xs := wi) (fun j σ Hf => Same He Hf ∧ ∃ M W x11, Hf M = some (.lst W) ∧ W.length = 12 + 2 * j ∧ VL K Hf W ∧ σ = [some (.ref sc), some (.ref a), some (.int (0 + (i : Int))), some (.ref p), some (.int (pan.length : Int)), some (.ref t), some (.ref r), some (.int at'), some vo, some (.ref g), some (.ref M), x11, x12, x13, x14, x15, x16, x17])
          ⟨Same.refl _, M, W, x11, eMI, lM, VI, rfl⟩ (fun j σ Hf _ hP => .inl (.inl (hP.1 _ _ eI))) (fun j x σ Hf hx hP => ?_) (fun σ Hf hP => ?_)
        · obtain ⟨sf, M, W, x11, eM, lM, VM, rfl⟩ := hP
          obtain ⟨di, hdi, qx⟩ := qi'.get j x hx
          have li := pi.2 di (List.mem_of_getElem? hdi)
          have hj : j < 8 := by rw [← pi.1, ← qi.length]; exact (List.getElem?_eq_some_iff.mp hx).1
          refine gn0 (asg_cat1 ⟨.ref M, rfl, ?_⟩)
          refine use_eva (K := K) (N := fun _ => False) (H0 := Hf) (t := tV2 K) (R := AllP Val 2) (v2 rfl (Dq.same (s9I.trans sf) _ _ dr) (ints_tupP rl rr') rfl rfl (Dq.same sf _ _ qx) li) (Same.refl _) fun w2 e2 Hg sg q2 p2 => ?_
          refine ⟨by rw [q2.length, p2.1]; decide, fun L2 nL2 => ⟨M, L2, _, _, rfl, rfl, same_new nL2 _ _ (sg _ _ eM), upd_same, by rw [lM, q2.length, p2.1]; exact Nat.le_of_lt (small1000 (by omega)), fun M2 nM2 => ?_⟩⟩
          have s2 : Same Hg (upd (upd Hg L2 (.lst w2)) M2 (.lst (W ++ w2))) := (same_new nL2).trans (same_new nM2)
          exact ⟨(sf.trans sg).trans s2, M2, W ++ w2, _, upd_same, by rw [List.length_append, lM, q2.length, p2.1]; omega, (VM.same (sg.trans s2)).app ((VL.of q2 p2).same s2), rfl⟩
        · obtain ⟨sf, M, W, x11, eM, lM, VM, rfl⟩ := hP
          rw [qi.length, pi.1] at lM
          -- all values
          refine nx_for (il_cat (K := K) (t := tE4 K) ?_)
          refine ⟨.ref M, rfl, ?_⟩
          refine use_eva (K := K) (N := fun _ => False) (H0 := Hf) (t := tE4 K) (R := AllP Val 4) e4 (Same.refl _) fun we ee Hg sg qe pe => ?_
          refine ⟨by rw [qe.length, pe.1]; decide, fun L2 nL2 => ⟨M, L2, _, _, rfl, rfl, same_new nL2 _ _ (sg _ _ eM), upd_same, by rw [lM, qe.length, pe.1]; decide, fun R nR => ?_⟩⟩
          have s2 : Same Hg (upd (upd Hg L2 (.lst we)) R (.lst (W ++ we))) := (same_new nL2).trans (same_new nR)
          have VR : VL K (upd (upd Hg L2 (.lst we)) R (.lst (W ++ we))) (W ++ we) := (VM.same (sg.trans s2)).app ((VL.of qe pe).same s2)
          have eR : (upd (upd Hg L2 (.lst we)) R (.lst (W ++ we))) R = some (.lst (W ++ we)) := upd_same
          have s9R := ((s9I.trans sf).trans sg).trans s2
          generalize upd (upd Hg L2 (.lst we)) R (.lst (W ++ we)) = Hh at VR eR s9R ⊢
          generalize W ++ we = Z at VR eR
          refine ⟨R, rfl, ⟨Z, .inl (.inl eR)⟩, ?_⟩
          refine for_list (xs := Z) (fun j σ Hi => Same Hh Hi ∧ ∃ y12 y13 y14 y15 y16 y17, σ = [some (.ref sc), some (.ref a), some (.int (0 + (i : Int))), some (.ref p), some (.int (pan.length : Int)), some (.ref t), some (.ref r), some (.int at'), some vo, some (.ref g), some (.ref M), x11, y12, y13, y14, y15, y16, y17])
            ⟨Same.refl _, _, _, _, _, _, _, rfl⟩ (fun j σ Hi _ hP => .inl (.inl (hP.1 _ _ eR))) (fun j x σ Hi hx hP => ?_) (fun σ Hi hP => ?_)
          · obtain ⟨si, y12, y13, y14, y15, y16, y17, rfl⟩ := hP
            obtain ⟨d, qd, vd⟩ := (VR.same si) x (List.mem_of_getElem? hx)
            have hpi := (hp9.same s9R).same si
            have hti := (ht9.same s9R).same si
            have shp := shq_psv hg hs vd
            refine ⟨.ref p, rfl, .ref t, rfl, x, rfl, by show 3 ≤ sizeLine; decide, fun B nB hB => ?_⟩
            have sB : Same Hi (upd Hi B (.lst [.ref p, .ref t, x])) := same_new nB
            refine ⟨(fun _ => False), .ref B, _, rfl, .lst hB (fun h => h) upd_same (.cons (PanAt.dq (hpi.same sB)) (.cons (dq_ints (hti.same sB).sq) (.cons (Dq.same sB d x qd) .nil))), shp, ?_⟩
            refine ⟨.ref p, rfl, .ref t, rfl, x, rfl, (fun _ => False), (fun _ => False), p, t, pan, st, x, d, rfl, hpi.same sB, hg, (hti.same sB).sq, hs, Dq.same sB d x qd, fun _ h => h.elim, fun Hk u sk qu => ⟨_, _, rfl, ?_⟩⟩
            have sik := sB.trans sk
            have she := due_shw (d := d) few hs
            -- found
            refine ⟨2, rfl, by decide, by decide, fun D2 nD2 => ?_⟩
            refine lc_range (n := 2) (fun k Hl => Same Hk Hl ∧ ∃ us es, Hl D2 = some (.lst us) ∧ DqAll K (fun y => y = D2) Hl us es ∧ AllP (fun e => e = dueD pan st d) k es) ⟨same_new nD2, [], [], upd_same, .nil, AllP.nil⟩ (fun k Hl hk hP => ?_) (fun Hl hP => ?_)
            · obtain ⟨sl, us, es, e2, qu', pu'⟩ := hP
              refine ⟨rfl, tyes (iteT ⟨.ref p, rfl, .ref t, rfl, x, rfl, (fun _ => False), (fun y => y = D2), p, t, pan, st, x, d, rfl, (hpi.same sik).same sl, hg, ((hti.same sik).same sl).sq, hs, Dq.same (sik.trans sl) d x qd, fun y hy => by rw [hy, e2]; simp, fun Hm u' sm qm => ⟨us, sm _ _ e2, by rw [qu'.length, pu'.1]; exact small1000 (by omega), fun b o e => ?_, us ++ [.ref u'], es ++ [dueD pan st d], upd_same, ?_, pu'.append (AllP.cons rfl AllP.nil)⟩⟩)⟩
              · rw [upd_ne (ne_of_none e nD2)]
                exact sm _ _ (sl _ _ e)
              · exact (dq_upd (N := fun y => y = D2) rfl (sm _ _ e2) (Dq.sameAll sm es us qu')).append (dq_upd (N := fun y => y = D2) rfl (sm _ _ e2) (.cons qm .nil))
            · obtain ⟨sl, us, es, e2, qu', pu'⟩ := hP
              obtain rfl : es = [dueD pan st d, dueD pan st d] := by
                match es, pu' with
                | [x1, x2], h => rw [h.2 x1 (by simp), h.2 x2 (by simp)]
              refine ⟨.ref D2, rfl, .ref u, rfl, .ref u, rfl, (by show 2 ≤ sizeLine; decide), fun L3 nL3 => ?_⟩
              have sL : Same Hl (upd Hl L3 (.lst [.ref u, .ref u])) := same_new nL3
              have du : Dp K (upd Hl L3 (.lst [.ref u, .ref u])) (.ref u) (dueD pan st d) := Dq.toDp _ _ she.nd (Dq.same (sl.trans sL) _ _ qu)
              have sh2 : Shw 2 200 (.list [dueD pan st d, dueD pan st d]) := (Shw.list (n := 60) (m := 2) (fun d' hd => by
                obtain rfl : d' = dueD pan st d := by simpa using hd
                exact she) (Nat.le_refl _)).mono (by decide) (by decide)
              refine ⟨D2, L3, _, rfl, .lst (.inl (.inl (sL _ _ e2))) (Dq.toDpAll _ _ (by simpa only [PyData.hasDict] using sh2.nd) (Dq.sameAll sL _ _ qu')), .lst (.inl (.inl upd_same)) (.cons du (.cons du .nil)), sh2.mono (by decide) (by decide), true, rfl, iteF ?_⟩
              have sil := (sik.trans sl).trans sL
              refine ⟨.ref p, rfl, .ref t, rfl, x, rfl, by show 3 ≤ sizeLine; decide, fun B2 nB2 hB2 => ?_⟩
              have sB2 : Same (upd Hl L3 (.lst [.ref u, .ref u])) (upd (upd Hl L3 (.lst [.ref u, .ref u])) B2 (.lst [.ref p, .ref t, x])) := same_new nB2
              have sF := sil.trans sB2
              refine ⟨(fun _ => False), .ref B2, _, rfl, .lst hB2 (fun h => h) upd_same (.cons (PanAt.dq (hpi.same sF)) (.cons (dq_ints (hti.same sF).sq) (.cons (Dq.same sF d x qd) .nil))), shp, .str _, rfl, rfl, _, rfl, iteNS rfl ?_⟩
              exact ⟨si.trans sF, _, _, _, _, _, _, rfl⟩
          · obtain ⟨si, y12, y13, y14, y15, y16, y17, rfl⟩ := hP
            exact ⟨(D9.same s9R).same si, _, _, _, _, _, _, _, _, _, _, _, _, _, _, _, _, rfl⟩
    · exact q _
end
end K03
namespace K03
open PySem PySem.Spec PyProof.Rows L2 Pr
/-! what the top has written -/
theorem all_mk {l : PySem.W.OpenLaw} {w : World} {K : PySem.W.Frag} {h : Heap} {mg : Str → Option Value} {fa f1 f2 f3 f4 f5 f6 f7 f8 f9 f10 f11 f12 f13 f14 f15 f16 f17 : Addr} (X : K.In h) (G : h.Ns mainGlobals mg) (hfa : mg "law" = some (.ref fa))
    {od1 an1 od2 an2 od3 an3 od4 an4 od5 an5 od6 an6 od7 an7 od8 an8 od9 an9 od10 an10 od11 an11 od12 an12 od13 an13 od14 an14 od15 an15 od16 an16 od17 an17 : Option Addr} {sl1 sl2 sl3 sl4 sl5 sl6 sl7 sl8 sl9 sl10 sl11 sl12 sl13 sl14 sl15 sl16 sl17 : Array (Option Value)} {oc1 kV1 dc1 pm1 cd1 ct1 oc2 kV2 dc2 pm2 cd2 ct2 oc3 kV3 dc3 pm3 cd3 ct3 oc4 kV4 dc4 pm4 cd4 ct4 oc5 kV5 dc5 pm5 cd5 ct5 oc6 kV6 dc6 pm6 cd6 ct6 oc7 kV7 dc7 pm7 cd7 ct7 oc8 kV8 dc8 pm8 cd8 ct8 oc9 kV9 dc9 pm9 cd9 ct9 oc10 kV10 dc10 pm10 cd10 ct10 oc11 kV11 dc11 pm11 cd11 ct11 oc12 kV12 dc12 pm12 cd12 ct12 oc13 kV13 dc13 pm13 cd13 ct13 oc14 kV14 dc14 pm14 cd14 ct14 oc15 kV15 dc15 pm15 cd15 ct15 oc16 kV16 dc16 pm16 cd16 ct16 oc17 kV17 dc17 pm17 cd17 ct17 : Value}
    (a1 : PySem.W.nsIn K mainGlobals "is_button" = some (some (.ref f1))) (l1 : K.lookup f1 = some ⟨oc1, od1, .func (PySem.W.fnOf "is_button" "is_button" (defArgs sBtn) (defBody sBtn) (defScope sBtn) .none kV1 dc1 pm1 an1 cd1 ct1), sl1⟩) (c1 : PySem.W.codeIn K cd1 "is_button" = true) (k1 : PySem.W.keepIn K (.ref f1) = true)
    (a2 : PySem.W.nsIn K mainGlobals "press_button" = some (some (.ref f2))) (l2 : K.lookup f2 = some ⟨oc2, od2, .func (PySem.W.fnOf "press_button" "press_button" (defArgs sPress) (defBody sPress) (defScope sPress) .none kV2 dc2 pm2 an2 cd2 ct2), sl2⟩) (c2 : PySem.W.codeIn K cd2 "press_button" = true) (k2 : PySem.W.keepIn K (.ref f2) = true)
    (a3 : PySem.W.nsIn K mainGlobals "check_row" = some (some (.ref f3))) (l3 : K.lookup f3 = some ⟨oc3, od3, .func (PySem.W.fnOf "check_row" "check_row" (defArgs sChk) (defBody sChk) (defScope sChk) .none kV3 dc3 pm3 an3 cd3 ct3), sl3⟩) (c3 : PySem.W.codeIn K cd3 "check_row" = true) (k3 : PySem.W.keepIn K (.ref f3) = true)
    (a4 : PySem.W.nsIn K mainGlobals "run" = some (some (.ref f4))) (l4 : K.lookup f4 = some ⟨oc4, od4, .func (PySem.W.fnOf "run" "run" (defArgs sRun) (defBody sRun) (defScope sRun) .none kV4 dc4 pm4 an4 cd4 ct4), sl4⟩) (c4 : PySem.W.codeIn K cd4 "run" = true) (k4 : PySem.W.keepIn K (.ref f4) = true)
    (a5 : PySem.W.nsIn K mainGlobals "_law_deck" = some (some (.ref f5))) (l5 : K.lookup f5 = some ⟨oc5, od5, .func (PySem.W.fnOf "_law_deck" "_law_deck" (defArgs sDeck) (defBody sDeck) (defScope sDeck) .none kV5 dc5 pm5 an5 cd5 ct5), sl5⟩) (c5 : PySem.W.codeIn K cd5 "_law_deck" = true) (k5 : PySem.W.keepIn K (.ref f5) = true)
    (a6 : PySem.W.nsIn K mainGlobals "_law_draw" = some (some (.ref f6))) (l6 : K.lookup f6 = some ⟨oc6, od6, .func (PySem.W.fnOf "_law_draw" "_law_draw" (defArgs sDraw) (defBody sDraw) (defScope sDraw) .none kV6 dc6 pm6 an6 cd6 ct6), sl6⟩) (c6 : PySem.W.codeIn K cd6 "_law_draw" = true) (k6 : PySem.W.keepIn K (.ref f6) = true)
    (a7 : PySem.W.nsIn K mainGlobals "_law_same" = some (some (.ref f7))) (l7 : K.lookup f7 = some ⟨oc7, od7, .func (PySem.W.fnOf "_law_same" "_law_same" (defArgs sSame) (defBody sSame) (defScope sSame) .none kV7 dc7 pm7 an7 cd7 ct7), sl7⟩) (c7 : PySem.W.codeIn K cd7 "_law_same" = true) (k7 : PySem.W.keepIn K (.ref f7) = true)
    (a8 : PySem.W.nsIn K mainGlobals "_law_is_number" = some (some (.ref f8))) (l8 : K.lookup f8 = some ⟨oc8, od8, .func (PySem.W.fnOf "_law_is_number" "_law_is_number" (defArgs sIsNum) (defBody sIsNum) (defScope sIsNum) .none kV8 dc8 pm8 an8 cd8 ct8), sl8⟩) (c8 : PySem.W.codeIn K cd8 "_law_is_number" = true) (k8 : PySem.W.keepIn K (.ref f8) = true)
    (a9 : PySem.W.nsIn K mainGlobals "_law_panel" = some (some (.ref f9))) (l9 : K.lookup f9 = some ⟨oc9, od9, .func (PySem.W.fnOf "_law_panel" "_law_panel" (defArgs sPanel) (defBody sPanel) (defScope sPanel) .none kV9 dc9 pm9 an9 cd9 ct9), sl9⟩) (c9 : PySem.W.codeIn K cd9 "_law_panel" = true) (k9 : PySem.W.keepIn K (.ref f9) = true)
    (a10 : PySem.W.nsIn K mainGlobals "_law_state" = some (some (.ref f10))) (l10 : K.lookup f10 = some ⟨oc10, od10, .func (PySem.W.fnOf "_law_state" "_law_state" (defArgs sState) (defBody sState) (defScope sState) .none kV10 dc10 pm10 an10 cd10 ct10), sl10⟩) (c10 : PySem.W.codeIn K cd10 "_law_state" = true) (k10 : PySem.W.keepIn K (.ref f10) = true)
    (a11 : PySem.W.nsIn K mainGlobals "_law_row" = some (some (.ref f11))) (l11 : K.lookup f11 = some ⟨oc11, od11, .func (PySem.W.fnOf "_law_row" "_law_row" (defArgs sRow) (defBody sRow) (defScope sRow) .none kV11 dc11 pm11 an11 cd11 ct11), sl11⟩) (c11 : PySem.W.codeIn K cd11 "_law_row" = true) (k11 : PySem.W.keepIn K (.ref f11) = true)
    (a12 : PySem.W.nsIn K mainGlobals "_law_pressed" = some (some (.ref f12))) (l12 : K.lookup f12 = some ⟨oc12, od12, .func (PySem.W.fnOf "_law_pressed" "_law_pressed" (defArgs sPressed) (defBody sPressed) (defScope sPressed) .none kV12 dc12 pm12 an12 cd12 ct12), sl12⟩) (c12 : PySem.W.codeIn K cd12 "_law_pressed" = true) (k12 : PySem.W.keepIn K (.ref f12) = true)
    (a13 : PySem.W.nsIn K mainGlobals "_law_odd" = some (some (.ref f13))) (l13 : K.lookup f13 = some ⟨oc13, od13, .func (PySem.W.fnOf "_law_odd" "_law_odd" (defArgs sOdd) (defBody sOdd) (defScope sOdd) .none kV13 dc13 pm13 an13 cd13 ct13), sl13⟩) (c13 : PySem.W.codeIn K cd13 "_law_odd" = true) (k13 : PySem.W.keepIn K (.ref f13) = true)
    (a14 : PySem.W.nsIn K mainGlobals "_law_twin" = some (some (.ref f14))) (l14 : K.lookup f14 = some ⟨oc14, od14, .func (PySem.W.fnOf "_law_twin" "_law_twin" (defArgs sTwin) (defBody sTwin) (defScope sTwin) .none kV14 dc14 pm14 an14 cd14 ct14), sl14⟩) (c14 : PySem.W.codeIn K cd14 "_law_twin" = true) (k14 : PySem.W.keepIn K (.ref f14) = true)
    (a15 : PySem.W.nsIn K mainGlobals "_law_due" = some (some (.ref f15))) (l15 : K.lookup f15 = some ⟨oc15, od15, .func (PySem.W.fnOf "_law_due" "_law_due" (defArgs sDue) (defBody sDue) (defScope sDue) .none kV15 dc15 pm15 an15 cd15 ct15), sl15⟩) (c15 : PySem.W.codeIn K cd15 "_law_due" = true) (k15 : PySem.W.keepIn K (.ref f15) = true)
    (a16 : PySem.W.nsIn K mainGlobals "_law_told" = some (some (.ref f16))) (l16 : K.lookup f16 = some ⟨oc16, od16, .func (PySem.W.fnOf "_law_told" "_law_told" (defArgs sTold) (defBody sTold) (defScope sTold) .none kV16 dc16 pm16 an16 cd16 ct16), sl16⟩) (c16 : PySem.W.codeIn K cd16 "_law_told" = true) (k16 : PySem.W.keepIn K (.ref f16) = true)
    (a17 : PySem.W.nsIn K mainGlobals "law" = some (some (.ref f17))) (l17 : K.lookup f17 = some ⟨oc17, od17, .func (PySem.W.fnOf "law" "law" (defArgs sLaw) (defBody sLaw) (defScope sLaw) .none kV17 dc17 pm17 an17 cd17 ct17), sl17⟩) (c17 : PySem.W.codeIn K cd17 "law" = true) (k17 : PySem.W.keepIn K (.ref f17) = true)
    {tk1 : Tok} (y1 : PySem.W.nsIn K mainGlobals "MAX_ROW" = some (some (.int 60 tk1)))
    {C CP CE CT fI : Addr} {nm q : Str} {Nn : Addr} {bs : List Value} {sn : List Str} {sub : List Value} {ab : Bool} {col : Option Bool} {dd : Option Addr} {q0 q1 q2 q3 q5 : Option Value} {ocI kVI dcI pmI cdI ctI : Value} {odI anI : Option Addr} {slI : Array (Option Value)}
    (uP : PySem.W.nsIn K mainGlobals "PanelError" = some (some (.ref CP))) (uC : PySem.W.nsIn K mainGlobals "BadRow" = some (some (.ref C))) (uE : PySem.W.nsIn K mainGlobals "BadEdit" = some (some (.ref CE))) (uT : PySem.W.nsIn K mainGlobals "BadText" = some (some (.ref CT)))
    (xL : K.lookup C = some (excClassObj nm q C Nn bs [.ref CP, .type "ValueError", .type "Exception", .type "BaseException", .type "object"] true sn sub ab col dd q0 q1 q2 q3 q5 "ValueError.__new__"))
    (sa : PySem.W.findIn K (.ref C) "__setattr__" = some (some (.builtin "object.__setattr__"))) (exC : PySem.W.subIn K (.ref C) (.type "BaseException") = some true) (tyC : PySem.W.typeIn K (.ref C) = some (.type "type")) (kC : PySem.W.keepIn K (.ref C) = true)
    (iC : PySem.W.findIn K (.ref C) "__init__" = some (some (.ref fI))) (tI : PySem.W.typeIn K (.ref fI) = some (.type "function")) (noN : PySem.W.findIn K (.ref C) "index" = some none)
    (lI : K.lookup fI = some ⟨ocI, odI, .func (PySem.W.fnOf "__init__" "BadRow.__init__" (defArgs sInit) (defBody sInit) (defScope sInit) .none kVI dcI pmI anI cdI ctI), slI⟩) (cI : PySem.W.codeIn K cdI "BadRow.__init__" = true) (kI : PySem.W.keepIn K (.ref fI) = true)
    (hg : PySem.W.findIn K (.ref C) "__getattribute__" = some (some (.builtin "BaseException.__getattribute__"))) (hk : PySem.W.findIn K (.ref C) "__getattr__" = some none) (hd : PySem.W.hasDictIn K C = true) (ha : PySem.W.findIn K (.ref C) "__class__" = some (some (.builtin "object.__class__")))
    (hn : PySem.W.specialIn K (.builtin "object.__class__") "__get__" = some (some (.builtin "getset_descriptor.__get__"))) (ht : PySem.W.takesIn K (.builtin "object.__class__") = some true) (hm : PySem.W.mroIn K C (.type "object") = some true)
    (xP : PySem.W.subIn K (.ref CP) (.type "BaseException") = some true) (dP : PySem.W.hasDictIn K CP = true) (tP : PySem.W.typeIn K (.ref CP) = some (.type "type")) (sP : PySem.W.subIn K (.ref C) (.ref CP) = some true)
    (vE : PySem.W.kitOne K (.ref C) (.type "ValueError") = some true) (nE : PySem.W.kitAny K (.ref C) [.ref CE, .ref CT] = some false)
    (z1 : PySem.W.nsIn K mainGlobals "len" = some none) (z2 : PySem.W.nsIn K mainGlobals "range" = some none) (z3 : PySem.W.nsIn K mainGlobals "tuple" = some none) (z4 : PySem.W.nsIn K mainGlobals "enumerate" = some none) (z5 : PySem.W.nsIn K mainGlobals "abs" = some none) (z6 : PySem.W.nsIn K mainGlobals "repr" = some none) (z7 : PySem.W.nsIn K mainGlobals "isinstance" = some none) (z8 : PySem.W.nsIn K mainGlobals "bool" = some none) (z9 : PySem.W.nsIn K mainGlobals "int" = some none) (z10 : PySem.W.nsIn K mainGlobals "list" = some none) (z11 : PySem.W.nsIn K mainGlobals "sorted" = some none) (z12 : PySem.W.nsIn K mainGlobals "ValueError" = some none) :
    ∃ fd : FuncData, (∀ (s : Shared) (v : Value), BindsTo s fd ⟨[v], []⟩ [("_law_script", v)]) ∧ ∀ base : Heap, K.In base → base.Ns mainGlobals mg → FnG l.prog w K mg base 6 fa fd ["_law_script"] (spLaw K) := by
  have e := hfa.symm.trans (PySem.W.mg_of X G a17)
  cases e
  have F1 := fun_mk (st := sBtn) l1 c1 k1
  have F2 := fun_mk (st := sPress) l2 c2 k2
  have F3 := fun_mk (st := sChk) l3 c3 k3
  have F4 := fun_mk (st := sRun) l4 c4 k4
  have F5 := fun_mk (st := sDeck) l5 c5 k5
  have F6 := fun_mk (st := sDraw) l6 c6 k6
  have F7 := fun_mk (st := sSame) l7 c7 k7
  have F8 := fun_mk (st := sIsNum) l8 c8 k8
  have F9 := fun_mk (st := sPanel) l9 c9 k9
  have F10 := fun_mk (st := sState) l10 c10 k10
  have F11 := fun_mk (st := sRow) l11 c11 k11
  have F12 := fun_mk (st := sPressed) l12 c12 k12
  have F13 := fun_mk (st := sOdd) l13 c13 k13
  have F14 := fun_mk (st := sTwin) l14 c14 k14
  have F15 := fun_mk (st := sDue) l15 c15 k15
  have F16 := fun_mk (st := sTold) l16 c16 k16
  have F17 := fun_mk (st := sLaw) l17 c17 k17
  have b1 := F1.binds (ps := ["value", "many"]) fun _ _ _ _ _ _ us hl => match us, hl with | [_, _], _ => rfl
  have b2 := F2.binds (ps := ["panel", "state", "button"]) fun _ _ _ _ _ _ us hl => match us, hl with | [_, _, _], _ => rfl
  have b3 := F3.binds (ps := ["panel", "value"]) fun _ _ _ _ _ _ us hl => match us, hl with | [_, _], _ => rfl
  have b4 := F4.binds (ps := ["panel", "state", "value"]) fun _ _ _ _ _ _ us hl => match us, hl with | [_, _, _], _ => rfl
  have b5 := F5.binds (ps := ["_law_script"]) fun _ _ _ _ _ _ us hl => match us, hl with | [_], _ => rfl
  have b6 := F6.binds (ps := ["_law_deck_here", "_law_limit"]) fun _ _ _ _ _ _ us hl => match us, hl with | [_, _], _ => rfl
  have b7 := F7.binds (ps := ["_law_value", "_law_due_here"]) fun _ _ _ _ _ _ us hl => match us, hl with | [_, _], _ => rfl
  have b8 := F8.binds (ps := ["_law_value", "_law_low", "_law_high"]) fun _ _ _ _ _ _ us hl => match us, hl with | [_, _, _], _ => rfl
  have b9 := F9.binds (ps := ["_law_deck_here", "_law_most"]) fun _ _ _ _ _ _ us hl => match us, hl with | [_, _], _ => rfl
  have b10 := F10.binds (ps := ["_law_deck_here", "_law_count"]) fun _ _ _ _ _ _ us hl => match us, hl with | [_, _], _ => rfl
  have b11 := F11.binds (ps := ["_law_deck_here", "_law_count", "_law_most"]) fun _ _ _ _ _ _ us hl => match us, hl with | [_, _, _], _ => rfl
  have b12 := F12.binds (ps := ["_law_panel_here", "_law_state_here", "_law_row_here"]) fun _ _ _ _ _ _ us hl => match us, hl with | [_, _, _], _ => rfl
  have b13 := F13.binds (ps := ["_law_deck_here"]) fun _ _ _ _ _ _ us hl => match us, hl with | [_], _ => rfl
  have b14 := F14.binds (ps := ["_law_row_here"]) fun _ _ _ _ _ _ us hl => match us, hl with | [_], _ => rfl
  have b15 := F15.binds (ps := ["_law_panel_here", "_law_state_here", "_law_value"]) fun _ _ _ _ _ _ us hl => match us, hl with | [_, _, _], _ => rfl
  have b16 := F16.binds (ps := ["_law_panel_here", "_law_state_here", "_law_value"]) fun _ _ _ _ _ _ us hl => match us, hl with | [_, _, _], _ => rfl
  have FI := fun_mk (st := sInit) lI cI kI
  have bI := FI.binds (ps := ["self", "index"]) fun _ _ _ _ _ _ us hl => match us, hl with | [_, _], _ => rfl
  have T : BadTxt K mg C fI _ := { oex := ⟨⟨nm, q, Nn, bs, _, sn, sub, ab, col, dd, q0, q1, q2, q3, q5, xL, by first | rfl | decide +kernel⟩, sa, exC, tyC, kC⟩, iC := iC, tI := tI, noN := noN, gC := PySem.W.mg_of X G uC, FI := FI, bI := bI }
  have Y : TryTxt K mg C CP CE CT := { exc := ⟨hg, hk, exC, hd, ha, hn, ht, hm⟩, xf := ⟨hg, hk, exC, hd⟩, gP := PySem.W.mg_of X G uP, gE := PySem.W.mg_of X G uE, gT := PySem.W.mg_of X G uT, m1 := PySem.W.exm_ref xP dP tP sP, k2 := vE, k3 := nE }
  exact ⟨_, fun s v => .of_eq rfl, fun base _ _ => ok_law F17 F1 b1 (PySem.W.mg_of X G a1) F2 b2 (PySem.W.mg_of X G a2) F3 b3 (PySem.W.mg_of X G a3) F4 b4 (PySem.W.mg_of X G a4) F5 b5 (PySem.W.mg_of X G a5) F6 b6 (PySem.W.mg_of X G a6) F7 b7 (PySem.W.mg_of X G a7) F8 b8 (PySem.W.mg_of X G a8) F9 b9 (PySem.W.mg_of X G a9) F10 b10 (PySem.W.mg_of X G a10) F11 b11 (PySem.W.mg_of X G a11) F12 b12 (PySem.W.mg_of X G a12) F13 b13 (PySem.W.mg_of X G a13) F14 b14 (PySem.W.mg_of X G a14) F15 b15 (PySem.W.mg_of X G a15) F16 b16 (PySem.W.mg_of X G a16) (PySem.W.mg_none_of X G z1) (PySem.W.mg_none_of X G z2) (PySem.W.mg_none_of X G z3) (PySem.W.mg_none_of X G z4) (PySem.W.mg_none_of X G z5) (PySem.W.mg_none_of X G z6) (PySem.W.mg_none_of X G z7) (PySem.W.mg_none_of X G z8) (PySem.W.mg_none_of X G z9) (PySem.W.mg_none_of X G z10) (PySem.W.mg_none_of X G z11) (PySem.W.mg_none_of X G z12) (PySem.W.mg_of X G y1) T Y⟩
end K03
open PySem PySem.W PyProof.Rows
theorem PySem.Challenge.cw_pressrelease_k03_rows_run_holds : PySem.Challenge.rw_pressrelease_k03_rows_run.Holds := by
  w_on; o_law; k_head; (case hw => w_witness2)
  k_fill
  refine Pr.walkG (l := PySem.Challenge.rw_pressrelease_k03_rows_run) (n := 63) (k := 6) (x := "_law_script") (sp := K03.spLaw) rfl (by decide) rfl ⟨rfl, by decide, by decide⟩ (fun w h Y => PySem.W.kIn_of Y) ?F (fun _ _ a ns hl _ _ hS => ⟨a, ns, rfl, hS, hl, fun _ => rfl⟩)
  case F =>
    intro w mg fa h KX G hmg
    refine' K03.all_mk KX G hmg ?a1 ?l1 ?c1 ?k1 ?a2 ?l2 ?c2 ?k2 ?a3 ?l3 ?c3 ?k3 ?a4 ?l4 ?c4 ?k4 ?a5 ?l5 ?c5 ?k5 ?a6 ?l6 ?c6 ?k6 ?a7 ?l7 ?c7 ?k7 ?a8 ?l8 ?c8 ?k8 ?a9 ?l9 ?c9 ?k9 ?a10 ?l10 ?c10 ?k10 ?a11 ?l11 ?c11 ?k11 ?a12 ?l12 ?c12 ?k12 ?a13 ?l13 ?c13 ?k13 ?a14 ?l14 ?c14 ?k14 ?a15 ?l15 ?c15 ?k15 ?a16 ?l16 ?c16 ?k16 ?a17 ?l17 ?c17 ?k17 ?y1 ?uP ?uC ?uE ?uT ?xL ?sa ?exC ?tyC ?kC ?iC ?tI ?noN ?lI ?cI ?kI ?hg ?hk ?hd ?ha ?hn ?ht ?hm ?xP ?dP ?tP ?sP ?vE ?nE ?z1 ?z2 ?z3 ?z4 ?z5 ?z6 ?z7 ?z8 ?z9 ?z10 ?z11 ?z12
    (case a1 => k_is); (case l1 => k_is); (case c1 => k_is); (case k1 => k_is); (case a2 => k_is); (case l2 => k_is); (case c2 => k_is); (case k2 => k_is); (case a3 => k_is); (case l3 => k_is); (case c3 => k_is); (case k3 => k_is)
    (case a4 => k_is); (case l4 => k_is); (case c4 => k_is); (case k4 => k_is); (case a5 => k_is); (case l5 => k_is); (case c5 => k_is); (case k5 => k_is); (case a6 => k_is); (case l6 => k_is); (case c6 => k_is); (case k6 => k_is)
    (case a7 => k_is); (case l7 => k_is); (case c7 => k_is); (case k7 => k_is); (case a8 => k_is); (case l8 => k_is); (case c8 => k_is); (case k8 => k_is); (case a9 => k_is); (case l9 => k_is); (case c9 => k_is); (case k9 => k_is)
    (case a10 => k_is); (case l10 => k_is); (case c10 => k_is); (case k10 => k_is); (case a11 => k_is); (case l11 => k_is); (case c11 => k_is); (case k11 => k_is); (case a12 => k_is); (case l12 => k_is); (case c12 => k_is); (case k12 => k_is)
    (case a13 => k_is); (case l13 => k_is); (case c13 => k_is); (case k13 => k_is); (case a14 => k_is); (case l14 => k_is); (case c14 => k_is); (case k14 => k_is); (case a15 => k_is); (case l15 => k_is); (case c15 => k_is); (case k15 => k_is)
    (case a16 => k_is); (case l16 => k_is); (case c16 => k_is); (case k16 => k_is); (case a17 => k_is); (case l17 => k_is); (case c17 => k_is); (case k17 => k_is); (case y1 => k_is); (case z1 => k_is); (case z2 => k_is); (case z3 => k_is)
    (case z4 => k_is); (case z5 => k_is); (case z6 => k_is); (case z7 => k_is); (case z8 => k_is); (case z9 => k_is); (case z10 => k_is); (case z11 => k_is); (case z12 => k_is)
    (case uP => first | k_is | rfl | decide +kernel); (case uC => first | k_is | rfl | decide +kernel); (case uE => first | k_is | rfl | decide +kernel); (case uT => first | k_is | rfl | decide +kernel); (case xL => first | k_is | rfl | decide +kernel); (case sa => first | k_is | rfl | decide +kernel); (case exC => first | k_is | rfl | decide +kernel); (case tyC => first | k_is | rfl | decide +kernel); (case kC => first | k_is | rfl | decide +kernel); (case iC => first | k_is | rfl | decide +kernel); (case tI => first | k_is | rfl | decide +kernel); (case noN => first | k_is | rfl | decide +kernel); (case lI => first | k_is | rfl | decide +kernel); (case cI => first | k_is | rfl | decide +kernel); (case kI => first | k_is | rfl | decide +kernel); (case hg => first | k_is | rfl | decide +kernel); (case hk => first | k_is | rfl | decide +kernel); (case hd => first | k_is | rfl | decide +kernel); (case ha => first | k_is | rfl | decide +kernel); (case hn => first | k_is | rfl | decide +kernel); (case ht => first | k_is | rfl | decide +kernel); (case hm => first | k_is | rfl | decide +kernel); (case xP => first | k_is | rfl | decide +kernel); (case dP => first | k_is | rfl | decide +kernel); (case tP => first | k_is | rfl | decide +kernel); (case sP => first | k_is | rfl | decide +kernel); (case vE => first | k_is | rfl | decide +kernel); (case nE => first | k_is | rfl | decide +kernel)
