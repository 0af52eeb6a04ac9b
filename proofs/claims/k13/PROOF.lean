import PyProof.Rows.All
import Wide.All
import OpenK.AllK
import Wide.FinOn
import HandS.ForMost
import HandS.IsInst
import HandS.Style
import HandS.StrMore
import HandS.Wide
import PyProof.ReprRoads
import PyProof.StrOps2
import PyProof.StrLawsRepr
import HandS.ForExc
import HandS.ExcIs
import HandS.ExcInit
import HandS.ExcField
import HandS.HotCalls
import HandS.DeepEq
import HandS.More
import HandS.Walk
import HandS.Set
import PyProof.SetRoads
import HandS.SetBool
import PyProof.FactsAll.set_1
import PyProof.Draws
import HandS.Zip0
import HandS.DictComp
import HandS.Defaults
import HandS.Iter
import KE.GoesZip
import KE.KDictWalk
import PyProof.Tail
import KE.SortCalls
import KE.KDictCopyH
import HandS.Conv
import HandS.Sort
import KE.KEqDict
import PyProof.DictFindH
import HandS.DictEq
import HandS.ExcOwn
import HandS.TupAny
import HandS.Property
import PySem.Challenge.RW_farapart_k13_facts_made
set_option Elab.async false
set_option linter.all false
set_option maxRecDepth 100000
set_option maxHeartbeats 1000000
/-! what the laws of this program share: defs that are called while no repr is under way -/
namespace Fv
open PySem PySem.Spec PyProof.Rows L2
structure FnG (P : Program) (w : World) (K : PySem.W.Frag) (mg : Str → Option Value) (base : Heap) (k : Nat) (f : Addr) (fd : FuncData) (ps : List Str) (sp : Sp) : Prop where
  wide : ∀ xs H Q E, sp xs H Q E → xs.length = ps.length
  go : ∀ (A : Around) (fr : List Env) (s : Shared) (H : Hp) (us : List Value) (xs : List V) (Q : VK) (E : XK), A.guards = some [] → Room k A → Env0 P w K mg base A fr s H →
    (∀ t : Shared, BindsTo t fd ⟨us, []⟩ (ps.zip us)) → Vals xs us → sp xs H Q E → codeAny (model P w) A (.call (.ref f) ⟨us, []⟩) (CR CX0 fr P w H s Q E) s
def BindG (fd : FuncData) (ps : List Str) : Prop := ∀ us : List Value, us.length = ps.length → ∀ t : Shared, BindsTo t fd ⟨us, []⟩ (ps.zip us)
theorem bindG_of {K : PySem.W.Frag} {x qual : Str} {st : Stmt} {f : Addr} {fd : FuncData} {ps : List Str} (F : Fun K x qual st f fd)
    (h : ∀ (kV doc pm : Value) (an : Option Addr) (cdv ct : Value) (us : List Value), us.length = ps.length → bindArgs (PySem.W.fnOf x qual (defArgs st) (defBody st) (defScope st) .none kV doc pm an cdv ct) ⟨us, []⟩ = pure (ps.zip us)) : BindG fd ps := by
  obtain ⟨oc, od, kV, doc, pm, an, cdv, ct, osl, rfl, lk, hcd⟩ := F.ex
  exact fun us hl t => BindsTo.of_eq (h kV doc pm an cdv ct us hl)
section
variable {P : Program} {w : World} {K : PySem.W.Frag} {mg : Str → Option Value} {base : Heap}
/-- every plain promise holds so, too -/
theorem FnG.of {k : Nat} {f : Addr} {fd : FuncData} {ps : List Str} {sp : Sp} (F : FnOk P w K mg base CX0 k f fd ps sp) : FnG P w K mg base k f fd ps sp :=
  ⟨F.len, fun A fr s H us xs Q E _ hr e0 hb r h => F.run A fr s H ⟨us, []⟩ us xs Q E hr e0 (hb s) r h⟩
theorem okG {x qual : Str} {st : Stmt} {f : Addr} {fd : FuncData} {N ps : List Str} {k : Nat} {sp : Sp} (F : Fun K x qual st f fd) (S : FnScope N ps (defScope st)) (wide : ∀ xs H Q E, sp xs H Q E → xs.length = ps.length)
    (body : ∀ (cdv : Value) (A : Around) (fr : List Env) (s : Shared) (H : Hp) (xs : List V) (Q : VK) (E : XK), A.guards = some [] → Room k (A.deeper (envOfC qual (defScope st) s.heap.objs.size f cdv)) → sp xs H Q E →
      ∃ t, PSs (cxOf CX0 P w K mg base N qual (defScope st) f cdv A fr s H E).nox (defBody st) t ∧ t { nx := fun _ H' => Q .non H', rt := Q } (start N xs) H) : FnG P w K mg base (k + 1) f fd ps sp := by
  obtain ⟨oc, od, kV, doc, pm, an, cdv, ct, osl, rfl, lk, hcd⟩ := F.ex
  refine ⟨wide, fun A fr s H us xs Q E hg hr e0 hb r hs => ?_⟩
  have old : ∀ b o, base.get? b = some o → s.heap.get? b = some o := fun b o e => (e0.bs b o e).1
  have inK : K.In s.heap := e0.mod.kin.keeps old
  have kinds : ∀ y ∈ ps.zip us, (defScope st).names.lookup y.1 = some .local ∨ ((defScope st).names.lookup y.1 = some .cell ∧ ((cellsFrom (s.heap.objs.size + 1) (defScope st).names []).lookup y.1).isSome = true) := by
    rintro ⟨n, v⟩ hy
    rcases S.par n (List.of_mem_zip hy).1 with q | q
    · exact Or.inl q
    · exact Or.inr ⟨q, PySem.W.cellsFrom_some _ _ _ (Or.inl q)⟩
  refine codeAny_call_function hr.depth (inK _ _ lk) rfl S.co S.gen rfl (PySem.W.codeRec_of inK hcd) (hb _ _ _ _ _ ?_)
  refine wpAny_newFunctionEnv_cells S.kind kinds fun env he s1 ic => ?_
  subst he
  refine ⟨(e0.mod.nolimit.keeps old).keeps ic.toInCall.keep, codeAny_func ?_⟩
  obtain ⟨t, ht, hq⟩ := body cdv A fr s H xs Q E hg (hr.deeper _) hs
  have I := inv_start (CX := CX0) (E := E) S hr.hd e0 (wide _ _ _ _ hs) r ic
  refine wpAny_mono (ht.nox.run [] s1 (start N xs) H _ I hq) (fun fl s' z => ?_) fun _ _ z => z
  cases fl with
  | ret u =>
    obtain ⟨v, σ', H', J, rv, q⟩ := z
    exact ⟨v, H', J.os, J.bare, J.base, J.hok, rv, q⟩
  | next =>
    obtain ⟨σ', H', J, q⟩ := z
    exact ⟨V.non, H', J.os, J.bare, J.base, J.hok, rfl, q⟩
  | brk =>
    obtain ⟨_, _, _, q⟩ := z
    exact q.elim
  | cont =>
    obtain ⟨_, _, _, q⟩ := z
    exact q.elim
end
section
variable {X : Cx} {k : Nat} {f : Addr} {fd : FuncData} {ps : List Str} {sp : Sp} {x : Str} {p pos : Pos} {e : Expr} {es : List Expr} {t : TA}
/-- f(e, ..) where no repr is under way -/
theorem pe_callG (F : FnG X.prog X.w X.K X.mg X.base k f fd ps sp) (hgd : X.A.guards = some []) (hr : Room k X.A) (hg : Gl X x) (hm : X.mg x = some (.ref f)) (hk : PySem.W.keepIn X.K (.ref f) = true) (hbs : BindG fd ps)
    (ha : PA X (e :: es) t) (hdb : (x == ("__debug__" : Str)) = false := by decide) (he : starEach (e :: es) X.env = (false, eval e X.env) :: starEach es X.env := by rfl) (hpl : (backTo pos (starEach es X.env)).any (·.1) = false := by rfl) :
    PE X (.Call (.Name x p) (e :: es) [] pos) (fun σ H Q => t σ H fun vs H1 => sp vs H1 Q E0) := by
  refine ⟨fun pins s σ H Q I h => wpAny_Call_Name_kw (ld_glob I hg hm ?_ hdb)⟩
  refine PySem.W.callWith_K (h₀ := X.base) I.ok.mod.kin hk (thn (ha.run pos pins s σ H _ I h) fun us s1 ⟨vs, H1, I1, r, q⟩ => ⟨I1.kIn, ?_⟩) he hpl
  have hl : us.length = ps.length := by rw [← r.length]; exact F.wide _ _ _ _ q
  refine wpAny_call (codeAny_mono (F.go X.A X.stack s1 H1 us vs Q E0 hgd hr I1.env0 (hbs us hl) r q) fun res s' hq => ?_)
  cases res with
  | error e => exact False.elim hq
  | ok fl =>
    cases fl with
    | ret u => exact I1.after hq
    | next => exact False.elim hq
    | brk => exact False.elim hq
    | cont => exact False.elim hq
end
section
variable {P : Program} {w : World} {K : PySem.W.Frag} {mg mb : Str → Option Value} {k : Nat} {fa a : Addr} {fd : FuncData} {x : Str} {sp : Sp} {s1 : Shared} {vs : List Value} {ns : List Int}
/-- the law's call: nothing but the script is tracked at its entry -/
theorem law_callG (KX : K.In s1.heap) (hns : s1.heap.Ns mainGlobals mg) (hb : s1.heap.Ns builtinsNs mb) (hbb : ∀ x : Str, x ≠ "__name__" → mb x = bootBuiltins x) (hlim : s1.heap.NoLimit) (hg : s1.gens = #[])
    (ha : s1.heap.get? a = some { cls := .type "list", data := .seq vs.toArray }) (hi : IntsAre vs ns) (hl : ns.length ≤ sizeLine) (hr : Room k callerA)
    (F : ∀ base : Heap, K.In base → base.Ns mainGlobals mg → FnG P w K mg base k fa fd [x] sp) (hbind : ∀ (s : Shared) (u : Value), BindsTo s fd ⟨[u], []⟩ [(x, u)])
    (hsp : ∀ H : Hp, Only H → SqL K H a (ns.map V.int) → sp [.ref a] H (fun v _ => v = .bl true) E0) :
    codeAny (model P w) callerA (.call (.ref fa) ⟨[.ref a], []⟩) (fun r s' => r = .ok (.ret (.bool true)) ∧ OldK s1.heap s'.heap ∧ s'.os = s1.os ∧ AllBare s'.gens) s1 := by
  have rv := vals_ints hi
  have hlen := hi.length
  have go : ∀ H : Hp, Only H → SqL K H a (ns.map V.int) → HOk P w H s1.heap → (∀ b, H b ≠ none → b = a ∧ K.lookup a = none) →
      codeAny (model P w) callerA (.call (.ref fa) ⟨[.ref a], []⟩) (fun r s' => r = .ok (.ret (.bool true)) ∧ OldK s1.heap s'.heap ∧ s'.os = s1.os ∧ AllBare s'.gens) s1 := by
    intro H only hS hok hA
    have free : ∀ {b : Addr} {o : Obj}, s1.heap.get? b = some o → (∀ z, o.data ≠ .seq vs.toArray z) → H b = none := by
      intro b o e d
      cases q : H b with
      | none => rfl
      | some u =>
        obtain ⟨rfl, _⟩ := hA b (by rw [q]; exact fun z => nomatch z)
        rw [ha] at e
        cases e
        exact (d _ rfl).elim
    have ns : ∀ {b : Addr} {m : Str → Option Value}, s1.heap.Ns b m → (hidT s1.heap H).Ns b m := by
      rintro b m ⟨o, es, ep, e, d, r⟩
      exact ⟨o, es, ep, hidT_get e (free e fun z q => by rw [d] at q; exact nomatch q), d, r⟩
    have inB : K.In (hidT s1.heap H) := by
      intro b o e
      refine hidT_get (KX b o e) ?_
      cases q : H b with
      | none => rfl
      | some u =>
        obtain ⟨rfl, n⟩ := hA b (by rw [q]; exact fun z => nomatch z)
        rw [n] at e
        exact nomatch e
    obtain ⟨mc, c1, c2⟩ := hlim
    have e0 : Env0 P w K mg (hidT s1.heap H) callerA [] s1 H :=
      ⟨rfl, ⟨inB, ns hns, ⟨mb, ns hb, hbb⟩, ⟨mc, ns c1, c2⟩⟩, fun b o e => of_hidT e, Nat.le_of_eq (hidT_size _ _), trivial, fun b z => absurd (show b ∈ ([] : List Addr) from z) List.not_mem_nil, hok, .of_eq hg⟩
    refine codeAny_mono ((F _ inB (ns hns)).go callerA [] s1 H [.ref a] [.ref a] _ _ rfl hr e0 (fun t => hbind t (.ref a)) (.cons rfl .nil) (hsp H only hS)) fun r s' h => ?_
    cases r with
    | error e => exact False.elim h
    | ok fl =>
      cases fl with
      | next => exact False.elim h
      | brk => exact False.elim h
      | cont => exact False.elim h
      | ret u =>
        obtain ⟨v, H', os, bare, un, hok', rr, q⟩ := h
        obtain rfl : v = .bl true := q
        obtain rfl : u = Value.bool true := rr
        refine ⟨rfl, OldK.of_keep fun b o e => ?_, os, bare⟩
        rcases only b with z | ⟨ob, xs, z⟩
        · exact un.keep b o e z (fun z => absurd (show b ∈ ([] : List Addr) from z) List.not_mem_nil) List.not_mem_nil
        · obtain ⟨e1, _⟩ := hok b _ z
          obtain ⟨e2, _⟩ := hok' b _ (un.frzs b ob _ z)
          rw [e] at e1
          cases e1
          exact e2
  cases hk : K.lookup a with
  | some o =>
    have e := KX a o hk
    rw [ha] at e
    cases e
    exact go (fun _ => none) (fun _ => Or.inl rfl) (.inr ⟨_, vs.toArray, _, hk, rfl, rfl, rfl, by rw [List.size_toArray, hlen]; exact hl, by simpa using rv⟩) (fun b u z => nomatch z) fun b z => absurd rfl z
  | none =>
    refine go (fun b => if b = a then some (.frz { cls := .type "list", data := .seq vs.toArray } (.lst (ns.map V.int))) else none) (fun b => ?_) (.inl (.inr ⟨_, if_pos rfl⟩)) (fun b u z => ?_) fun b z => ?_
    · by_cases hb : b = a
      · exact Or.inr ⟨_, _, if_pos hb⟩
      · exact Or.inl (if_neg hb)
    · by_cases hb : b = a
      · subst hb
        simp only [if_true] at z
        cases z
        exact ⟨ha, by rw [List.length_map]; exact hl, vs, _, rv, ha⟩
      · simp only [if_neg hb] at z
        cases z
    · by_cases hb : b = a
      · exact ⟨hb, hk⟩
      · exact absurd (if_neg hb) z
end
theorem walk_G {l : PySem.W.OpenLaw} {n k : Nat} {q : Program} {loose : List Str} {XP : (Str → Option Value) → Heap → Prop} {YP : World → Heap → Prop} {d : DefRec} {K : Params → PySem.W.Frag} {sp : PySem.W.Frag → Sp} {x : Str}
    (hn : l.most = some n) (hn2 : n ≤ sizeLine) (hdf : d.params.defaults = []) (hr : Room k callerA) (hY : ∀ (w : World) (h : Heap), YP w h → (K w.params).In h)
    (F : ∀ (w : World) (mg : Str → Option Value) (fa : Addr) (h : Heap), (K w.params).In h → h.Ns mainGlobals mg → mg d.name = some (.ref fa) →
      ∃ fd : FuncData, (∀ (s : Shared) (u : Value), BindsTo s fd ⟨[u], []⟩ [(x, u)]) ∧ ∀ base : Heap, (K w.params).In base → base.Ns mainGlobals mg → FnG l.prog w (K w.params) mg base k fa fd [x] (sp (K w.params)))
    (hsp : ∀ (K : PySem.W.Frag) (H : Hp) (a : Addr) (ns : List Int), ns.length ≤ n → Only H → SqL K H a (ns.map V.int) → sp K [.ref a] H (fun v _ => v = .bl true) E0) :
    PySem.W.WalkO q loose XP YP l.row.toRowW d [] (fun f vs => PySem.call f vs) := by
  refine Att.attach_call hn hdf fun w s₀ s1 mg mb fa o pm cd doc a vs ns G Y ho hd hcd hmg hobj hints hlen hg => ?_
  obtain ⟨fd, hb, hF⟩ := F w mg fa _ (hY w _ Y) G.T.g hmg
  exact law_callG (hY w _ Y) G.T.g G.T.b G.T.builtins G.T.nolimit hg hobj hints (Nat.le_trans hlen hn2) hr hF hb fun H hO hS => hsp (K w.params) H a ns hlen hO hS
end Fv


set_option Elab.async false
set_option linter.all false
set_option maxRecDepth 100000
set_option maxHeartbeats 1000000
namespace Fv
open PySem PySem.Spec PyProof.Rows L2
/-! ### data at a value: own lists stand away from the bag (b) -/
mutual
inductive Dq (H : Hp) (b : Addr) : V → PyData → Prop
  | non : Dq H b .non .none
  | bl (x : Bool) : Dq H b (.bl x) (.bool x)
  | int (i : Int) : Dq H b (.int i) (.int i)
  | str (x : Str) : Dq H b (.str x) (.str x)
  | lst {a : Addr} {xs : List V} {ds : List PyData} : H a = some (.lst xs) → a ≠ b → a ≠ sysModules → DqAll H b xs ds → Dq H b (.ref a) (.list ds)
  | tup {a : Addr} {xs : List V} {ds : List PyData} : H a = some (.tup xs) → a ≠ b → DqAll H b xs ds → Dq H b (.ref a) (.tuple ds)
  | dct {a : Addr} {kvs : List (Key × V)} {ps : List (PyData × PyData)} : H a = some (.dK kvs) → a ≠ b → DqAll H b (kvs.map fun p => kV p.1) (ps.map (·.1)) → DqAll H b (kvs.map (·.2)) (ps.map (·.2)) → Dq H b (.ref a) (.dict ps)
inductive DqAll (H : Hp) (b : Addr) : List V → List PyData → Prop
  | nil : DqAll H b [] []
  | cons {v : V} {vs : List V} {d : PyData} {ds : List PyData} : Dq H b v d → DqAll H b vs ds → DqAll H b (v :: vs) (d :: ds)
end
mutual
theorem Dq.mono {H H' : Hp} {b : Addr} (k : ∀ a o, a ≠ b → H a = some o → H' a = some o) : ∀ {v : V} {d : PyData}, Dq H b v d → Dq H' b v d
  | _, _, .non => .non
  | _, _, .bl x => .bl x
  | _, _, .int i => .int i
  | _, _, .str x => .str x
  | _, _, .lst e n m h => .lst (k _ _ n e) n m (DqAll.mono k h)
  | _, _, .tup e n h => .tup (k _ _ n e) n (DqAll.mono k h)
  | _, _, .dct e n h h' => .dct (k _ _ n e) n (DqAll.mono k h) (DqAll.mono k h')
theorem DqAll.mono {H H' : Hp} {b : Addr} (k : ∀ a o, a ≠ b → H a = some o → H' a = some o) : ∀ {v : List V} {d : List PyData}, DqAll H b v d → DqAll H' b v d
  | _, _, .nil => .nil
  | _, _, .cons h t => .cons (Dq.mono k h) (DqAll.mono k t)
end
theorem kV_rel {k : Key} {v : Value} (h : keyIs k v = true) : RelV (kV k) v := by
  rcases keyIs_shape h with ⟨i, t, rfl, rfl⟩ | ⟨x, t, rfl, rfl⟩
  · exact ⟨t, rfl⟩
  · exact ⟨t, rfl⟩
theorem pairs_keys {P : Program} {w : World} : ∀ {kvs : List (Key × V)} {vs : List (Key × Value)} {es : List DictEntry}, KV kvs vs → Pairs (mixKind P w) es vs → Vals (kvs.map fun p => kV p.1) (es.map (·.key))
  | _, _, _, .nil, .nil => .nil
  | _, _, _, .cons r t, .cons h _ q => .cons (by
    have e := r.1
    show RelV (kV _) _
    rw [e]
    exact kV_rel h) (pairs_keys t q)
theorem pairs_vals {P : Program} {w : World} : ∀ {kvs : List (Key × V)} {vs : List (Key × Value)} {es : List DictEntry}, KV kvs vs → Pairs (mixKind P w) es vs → Vals (kvs.map (·.2)) (es.map (·.val))
  | _, _, _, .nil, .nil => .nil
  | _, _, _, .cons r t, .cons _ h q => .cons (by
    show RelV _ (DictEntry.val _)
    rw [h]
    exact r.2) (pairs_vals t q)
section
variable {X : Cx} {pins : List (Addr × Obj)} {σ : L2.St} {H : Hp} {s : Shared} {b : Addr}
mutual
theorem Dq.reads (I : Inv X pins σ H s) : ∀ {v : V} {d : PyData} {u : Value}, Dq H b v d → RelV v u → ∃ as, Reads s.heap u d as ∧ sysModules ∉ as
  | _, _, _, .non, r => by
    cases r
    exact ⟨_, .none, List.not_mem_nil⟩
  | _, _, _, .bl x, r => by
    cases r
    exact ⟨_, .bool x, List.not_mem_nil⟩
  | _, _, _, .int i, r => by
    obtain ⟨t, rfl⟩ := r
    exact ⟨_, .int i t, List.not_mem_nil⟩
  | _, _, _, .str x, r => by
    obtain ⟨t, rfl⟩ := r
    exact ⟨_, .str x t, List.not_mem_nil⟩
  | _, _, _, .lst (a := a) e _ m h, r => by
    cases r
    obtain ⟨_, its, n, rv, he⟩ := (show ObjOk X.prog X.w H s.heap a (.lst _) from I.hok a _ e)
    obtain ⟨as, q, z⟩ := DqAll.reads I h rv
    exact ⟨_, .list he rfl rfl (by simpa using q), fun y => (List.mem_cons.mp y).elim (fun w => m w.symm) z⟩
  | _, _, _, .tup (a := a) e _ h, r => by
    cases r
    obtain ⟨_, its, rv, o, he, hc, n, hd⟩ := (show ObjOk X.prog X.w H s.heap a (.tup _) from I.hok a _ e)
    obtain ⟨as, q, z⟩ := DqAll.reads I h rv
    exact ⟨_, .tuple he hc hd (by simpa using q), z⟩
  | _, _, _, .dct (a := a) e _ h h', r => by
    cases r
    obtain ⟨_, m, vs, rel, o, es, ep, he, hx, hd, _, hp, _⟩ := (show ObjOk X.prog X.w H s.heap a (.dK _) from I.hok a _ e)
    have k1 : Vals (_ : List V) (es.toList.map (·.key)) := pairs_keys rel hp
    have k2 : Vals (_ : List V) (es.toList.map (·.val)) := pairs_vals rel hp
    obtain ⟨as, q, z⟩ := DqAll.reads I h k1
    obtain ⟨bs, q', z'⟩ := DqAll.reads I h' k2
    exact ⟨_, .dict he hx.1 hd q q', fun y => by
      rcases List.mem_append.mp y with y | y
      · rcases List.mem_cons.mp y with w | w
        · rw [← w] at m
          simp at m
        · exact z w
      · exact z' y⟩
theorem DqAll.reads (I : Inv X pins σ H s) : ∀ {v : List V} {d : List PyData} {u : List Value}, DqAll H b v d → Vals v u → ∃ as, ReadsAll s.heap u d as ∧ sysModules ∉ as
  | _, _, _, .nil, r => by
    cases r
    exact ⟨_, .nil, List.not_mem_nil⟩
  | _, _, _, .cons h t, r => by
    cases r with
    | cons r1 r2 =>
      obtain ⟨as, q, z⟩ := Dq.reads I h r1
      obtain ⟨bs, q', z'⟩ := DqAll.reads I t r2
      exact ⟨_, .cons q q', fun y => (List.mem_append.mp y).elim z z'⟩
end
end
/-! ### rules -/
/-- repr of data -/
def rRepr : List V → Hp → VK → Prop := fun xs H Q => ∃ (b : Addr) (v : V) (d : PyData), xs = [v] ∧ Dq H b v d ∧ d.showable = true ∧ d.shown.length ≤ sizeLine ∧ d.depth ≤ 20 ∧ Q (.str d.shown) H
section
variable {X : Cx}
theorem call_reprD (hg : X.A.guards = some []) (hu : X.A.units + 64 < cLine) : CallR X (.builtin "repr") rRepr := by
  intro pins s σ H xs us Q I r h
  obtain ⟨b, v, d, rfl, hd, hs, hz, hdp, q⟩ := h
  cases r with
  | cons r rr =>
    cases rr
    rename_i u
    obtain ⟨as, rd, ns⟩ := Dq.reads I hd r
    cases rd with
    | none => exact PySem.P.repr_of_none ⟨.str _, H, I.tok _, ⟨_, rfl⟩, q⟩
    | bool x => exact PySem.P.repr_of_bool ⟨.str _, H, I.tok _, ⟨_, rfl⟩, q⟩
    | int i t => exact PySem.P.repr_of_int (by simpa [PyData.showable] using hs) ⟨.str _, H, I.tok _, ⟨_, rfl⟩, q⟩
    | str x t => exact PySem.P.repr_of_str ⟨.str _, H, I.tok _, ⟨_, rfl⟩, q⟩ (by simpa only [PyData.shown] using hz)
    | list a1 a2 a3 a4 => exact repr_of_reads' (.list a1 a2 a3 a4) hs (fun _ => ns) hg (by omega) (fun _ _ e => e) (fun h' u tk k => ⟨.str _, H, I.kept (h' := h') (t' := tk) k, ⟨_, rfl⟩, q⟩) hz
    | tuple a1 a2 a3 a4 => exact repr_of_reads' (.tuple a1 a2 a3 a4) hs (fun _ => ns) hg (by omega) (fun _ _ e => e) (fun h' u tk k => ⟨.str _, H, I.kept (h' := h') (t' := tk) k, ⟨_, rfl⟩, q⟩) hz
    | dict a1 a2 a3 a4 a5 => exact repr_of_reads' (.dict a1 a2 a3 a4 a5) hs (fun _ => ns) hg (by omega) (fun _ _ e => e) (fun h' u tk k => ⟨.str _, H, I.kept (h' := h') (t' := tk) k, ⟨_, rfl⟩, q⟩) hz
/-- xs[j] at a written or reckoned place, for op= -/
def rGetL (K : PySem.W.Frag) : V → V → Hp → VK → Prop := fun x y H Q => ∃ (p : Addr) (xs : List V) (j : Nat) (v : V), x = .ref p ∧ y = .int j ∧ SqL K H p xs ∧ xs[j]? = some v ∧ Q v H
theorem pget_list : PGet X (rGetL X.K) := by
  intro pins s σ H o i ov iv Q I ro ri h
  obtain ⟨p, xs, j, v, rfl, rfl, hq, he, q⟩ := h
  cases ro
  obtain ⟨t, rfl⟩ := ri
  obtain ⟨its, r, pl, hz⟩ := I.list hq
  obtain ⟨w, ew, rw'⟩ := r.get he
  have h1 : j < xs.length := (List.getElem?_eq_some_iff.mp he).1
  have h2 : sizeLine < 2 ^ 63 := by decide
  exact wpAny_getItem_list pl.isList (by omega) (by omega) (by simpa using ew) ⟨v, H, I, rw', q⟩
/-- '0' * n -/
def zeros (n : Nat) : Str := ⟨(List.replicate n #[48]).foldl (· ++ ·) #[]⟩
def rZeros : R2 := fun x y H Q => ∃ n : Nat, x = .str "0" ∧ y = .int n ∧ n < 64 ∧ Q (.str (zeros n)) H
theorem zeros_len : ∀ n : Nat, n < 64 → (zeros n).length = n := by decide +kernel
theorem op_zeros : OpR X (binaryOp .Mult) rZeros := by
  intro pins s σ H x y v u Q I rx ry h
  obtain ⟨n, rfl, rfl, hn, q⟩ := h
  obtain ⟨t, rfl⟩ := rx
  obtain ⟨t', rfl⟩ := ry
  have fin : EP X pins σ Q (.str (zeros n) s.toks) { s with toks := s.toks + 1 } := ⟨.str _, H, I.tok _, ⟨_, rfl⟩, q⟩
  refine PySem.P.mul_str (by rw [decide_eq_false (by omega), decide_eq_false (by omega)]; rfl) (fun _ _ => ?_) (fun _ _ => ?_) ?_
  · have : ("0" : Str).length = 1 := by decide +kernel
    rw [this]
    have h3 : (1 : Int) ≤ (2 ^ 63 - 1) / (n : Int) := by
      rename_i a b
      exact Int.le_ediv_of_mul_le (by omega) (by omega)
    omega
  · have : ("0" : Str).length = 1 := by decide +kernel
    rw [this]
    have hz := (by decide : 64 < sizeLine)
    simp only [Nat.one_mul, Int.toNat_natCast]
    unfold Builtin.Str.tooLong
    exact decide_eq_false (by omega)
  · by_cases h0 : n = 0
    · subst h0
      exact ⟨by decide, fin⟩
    · rw [if_neg (by omega)]
      by_cases h1 : n = 1
      · subst h1
        exact ⟨.str _, H, I, ⟨t, rfl⟩, q⟩
      · rw [if_neg (by
          have : ((n : Int) == 1) = false := by simpa using (by omega : ¬ ((n : Int) = 1))
          rw [this]
          decide)]
        exact ⟨by show (zeros n).length ≤ _; rw [zeros_len n hn]; have hz := (by decide : 64 < sizeLine); omega, fin⟩
end
/-! ### types of data -/
def tyN : PyData → String
  | .none => "NoneType"
  | .bool _ => "bool"
  | .int _ => "int"
  | .str _ => "str"
  | .list _ => "list"
  | .tuple _ => "tuple"
  | .dict _ => "dict"
theorem Dq.ty {K : PySem.W.Frag} {H : Hp} {b : Addr} {v : V} {d : PyData} (h : Dq H b v d) : TyX K H v (.type (tyN d)) := by
  cases h with
  | non => exact .base .non
  | bl x => exact .base (.bl x)
  | int i => exact .base (.int i)
  | str x => exact .base (.str x)
  | lst e _ _ _ => exact .base (.lst e)
  | tup e _ _ => exact .base (.tup e)
  | dct e _ _ _ => exact .base (.dK e)
def isStrD : PyData → Bool
  | .str _ => true
  | _ => false
def isBoolD : PyData → Bool
  | .bool _ => true
  | _ => false
def isIntD : PyData → Bool
  | .int _ => true
  | .bool _ => true
  | _ => false
theorem kit_str {K : PySem.W.Frag} (d : PyData) : PySem.W.kitOne K (.type (tyN d)) (.type "str") = some (isStrD d) := by
  cases d
  · exact kit_ty (a := "NoneType") (b := "str") (r := false) (by decide +kernel)
  · exact kit_ty (a := "bool") (b := "str") (r := false) (by decide +kernel)
  · exact kit_ty (a := "int") (b := "str") (r := false) (by decide +kernel)
  · exact kit_ty (a := "str") (b := "str") (r := true) (by decide +kernel)
  · exact kit_ty (a := "list") (b := "str") (r := false) (by decide +kernel)
  · exact kit_ty (a := "tuple") (b := "str") (r := false) (by decide +kernel)
  · exact kit_ty (a := "dict") (b := "str") (r := false) (by decide +kernel)
theorem kit_bool {K : PySem.W.Frag} (d : PyData) : PySem.W.kitOne K (.type (tyN d)) (.type "bool") = some (isBoolD d) := by
  cases d
  · exact kit_ty (a := "NoneType") (b := "bool") (r := false) (by decide +kernel)
  · exact kit_ty (a := "bool") (b := "bool") (r := true) (by decide +kernel)
  · exact kit_ty (a := "int") (b := "bool") (r := false) (by decide +kernel)
  · exact kit_ty (a := "str") (b := "bool") (r := false) (by decide +kernel)
  · exact kit_ty (a := "list") (b := "bool") (r := false) (by decide +kernel)
  · exact kit_ty (a := "tuple") (b := "bool") (r := false) (by decide +kernel)
  · exact kit_ty (a := "dict") (b := "bool") (r := false) (by decide +kernel)
theorem kit_int {K : PySem.W.Frag} (d : PyData) : PySem.W.kitOne K (.type (tyN d)) (.type "int") = some (isIntD d) := by
  cases d
  · exact kit_ty (a := "NoneType") (b := "int") (r := false) (by decide +kernel)
  · exact kit_ty (a := "bool") (b := "int") (r := true) (by decide +kernel)
  · exact kit_ty (a := "int") (b := "int") (r := true) (by decide +kernel)
  · exact kit_ty (a := "str") (b := "int") (r := false) (by decide +kernel)
  · exact kit_ty (a := "list") (b := "int") (r := false) (by decide +kernel)
  · exact kit_ty (a := "tuple") (b := "int") (r := false) (by decide +kernel)
  · exact kit_ty (a := "dict") (b := "int") (r := false) (by decide +kernel)
end Fv


set_option Elab.async false
set_option linter.all false
set_option maxRecDepth 100000
set_option maxHeartbeats 1000000
namespace Fv
open PySem PySem.Spec PyProof.Rows L2
section
variable {X : Cx} {es : List Expr} {t : TA} {pos : Pos}
/-- a written list; its place is none of the first ones -/
def tLstB (t : TA) : TE := fun σ H Q => t σ H fun xs H1 => xs.length ≤ sizeLine ∧ ∀ p, H1 p = none → p ≠ sysModules → Q (.ref p) (upd H1 p (.lst xs))
theorem pe_lstB (h : PA X es t) : PE X (.List es pos) (tLstB t) := by
  refine ⟨fun pins s σ H Q I hq => wpAny_List_spliced (thn (h.run pos pins s σ H _ I hq) fun us s1 e => ?_)⟩
  obtain ⟨xs, H1, I1, r, z, q⟩ := e
  have z' : us.length ≤ sizeLine := by rw [← r.length]; exact z
  have J : Inv X pins σ (upd H1 s1.heap.objs.size (.lst xs)) { s1 with heap := s1.heap.push { cls := .type "list", data := .seq us.toArray } } :=
    I1.laid (t' := s1.toks) (fun _ _ e => Heap.get?_push_of_some _ e) (Nat.le_refl _) ⟨z, us, 0, r, Heap.get?_push_size _ rfl⟩
  exact ⟨z', .ref _, _, J, rfl, q _ (I1.hok.fresh (Nat.le_refl _)) (Nat.ne_of_gt I1.big)⟩
end
theorem DqAll.get {H : Hp} {b : Addr} : ∀ {vs : List V} {ds : List PyData} {j : Nat} {v : V}, DqAll H b vs ds → vs[j]? = some v → ∃ d, d ∈ ds ∧ Dq H b v d
  | _, _, _, _, .nil, e => by simp at e
  | _, _, 0, _, .cons h _, e => by
    simp at e
    subst e
    exact ⟨_, List.mem_cons_self, h⟩
  | _, _, j + 1, _, .cons _ t, e => by
    obtain ⟨d, m, h⟩ := DqAll.get t (j := j) (by simpa using e)
    exact ⟨d, List.mem_cons_of_mem _ m, h⟩
/-! ### what is fine to be shown -/
structure Fine (d : PyData) : Prop where
  show_ : d.showable = true
  len : d.shown.length ≤ 20000
  deep : d.depth ≤ 3
def okS (z : Str) : Prop := z.length ≤ 1000 ∧ ∀ c ∈ z.cps.toList, c < 128
theorem okS.repr {z : Str} (h : okS z) : (reprText z).length ≤ 10010 := by
  have := StrLaws.reprText_len z fun c hc => Nat.lt_of_lt_of_le (h.2 c hc) (by decide)
  have := h.1
  omega
theorem Fine.str {z : Str} (h : okS z) : Fine (.str z) := ⟨by simp [PyData.showable], by simp only [PyData.shown]; have := h.repr; omega, by simp [PyData.depth]⟩
theorem Fine.one_tup {z : Str} (h : okS z) : Fine (.tuple [.str z]) := by
  refine ⟨by simp [PyData.showable, PyData.showableAll], ?_, by simp [PyData.depth, PyData.depthAll]⟩
  have e : (PyData.tuple [.str z]).shown = tupleText [reprText z] := by simp [PyData.shown, PyData.shownAll]
  rw [e]
  have hr := h.repr
  have e2 : ∀ x : Str, (tupleText [x]).length = 1 + x.length + 2 := fun x => by
    unfold tupleText
    rw [strLen_append, strLen_append]
    rfl
  rw [e2]
  omega
theorem Fine.one_lst {z : Str} (h : okS z) : Fine (.list [.str z]) := by
  refine ⟨by simp [PyData.showable, PyData.showableAll], ?_, by simp [PyData.depth, PyData.depthAll]⟩
  have e : (PyData.list [.str z]).shown = listText [reprText z] := by simp [PyData.shown, PyData.shownAll]
  rw [e]
  have hr := h.repr
  have e2 : ∀ x : Str, (listText [x]).length = 1 + x.length + 1 := fun x => by
    unfold listText
    rw [strLen_append]
    have e3 : textFrom 0 "[" [x] = ("[" : Str) ++ x := rfl
    rw [e3, strLen_append]
    rfl
  rw [e2]
  omega
theorem Fine.one_dct {z : Str} (h : okS z) : Fine (.dict [(.str z, .int 1)]) := by
  refine ⟨by simp only [PyData.showable, PyData.showableKv]; decide, ?_, by simp [PyData.depth, PyData.depthKv]⟩
  have e : (PyData.dict [(.str z, .int 1)]).shown = dictText [reprText z ++ ": " ++ (toString (1 : Int) : String)] := by simp [PyData.shown, PyData.shownKv]
  rw [e]
  have hr := h.repr
  have e2 : ∀ x : Str, (dictText [x]).length = 1 + x.length + 1 := fun x => by
    unfold dictText
    rw [strLen_append, strLen_append]
    rfl
  have e3 : ((toString (1 : Int) : String) : Str).length = 1 := by decide +kernel
  have e4 : ((": " : String) : Str).length = 2 := by decide +kernel
  rw [e2, strLen_append, strLen_append, e3, e4]
  omega
end Fv


set_option Elab.async false
set_option linter.all false
set_option maxRecDepth 100000
set_option maxHeartbeats 1000000
/-! own errors: what a caught one is an instance of, its fields; defs that are called with it in an except suite -/
namespace Fv
open PySem PySem.Spec PyProof.Rows L2
section
open PySem.W PySem.Calls
variable {prog : Program} {w : World} {A : Around} {E : Value → Shared → Prop} {s : Shared} {K : Frag} {x D : Addr} {ox : Obj} {od : Option Obj}
theorem bound_data {a g : Value} {name : Str} (c : (clsIn K D).isSome = true) (fa : findIn K (.ref D) name = some (some a)) (fg : specialIn K a "__get__" = some (some g)) (ft : takesIn K a = some true) : findObj K D od name = some (.bind g a) := by
  obtain ⟨cd, c⟩ := Option.isSome_iff_exists.mp c
  unfold findObj
  rw [c, Option.bind_some, fa, Option.bind_some]
  simp [fg, ft]
theorem class_of_exc {Q : Option Value → Shared → Prop} (T : ExcC K D) (X : K.In s.heap) (I : InstAt s.heap x ox D od) (h : Q (some (.ref D)) { s with toks := s.toks + 1 }) : wpAny (model prog w) A (getAttr? (.ref x) "__class__") Q E s := by
  have fo : findObj K D od "__class__" = some (.bind (.builtin "getset_descriptor.__get__") (.builtin "object.__class__")) :=
    bound_data (by obtain ⟨cd, e, _⟩ := any_some T.hd; rw [e]; rfl) T.ha T.hn T.ht
  obtain ⟨hp, g, d, t, os⟩ := s
  have M0 := I.type (M := model prog w)
  have M1 := looks_findIn (M := model prog w) X T.hg
  have M2 := looks_findIn (M := model prog w) X T.hk
  have M3 := looks_find (M := model prog w) X I fo
  have sb : Looks (model prog w) hp (isInstance (.ref x) (.type "BaseException")) true := M0.andThen (looks_subIn X T.hs)
  have n2 : (Value.builtin "BaseException.__getattribute__" == Value.builtin "object.__getattribute__") = false := by decide +kernel
  have n1 : (onTheHeap (Value.ref D) && Value.builtin "BaseException.__getattribute__" == Value.builtin "object.__getattribute__") = false := by rw [n2]; rfl
  have n0 : (false && onTheHeap (Value.builtin "BaseException.__getattribute__")) = false := rfl
  unfold getAttr? getAttrBy? getAttrBy
  refine wpAny_bind (wpAny_mkText (wpAny_bind (wpAny_attempt (wpAny_holding (wpAny_bind (M0.at (wpAny_bind (M1.at ?_))))))))
  show wpAny _ _ (ite ((onTheHeap (Value.ref D) && Value.builtin "BaseException.__getattribute__" == Value.builtin "object.__getattribute__") = true) _ _) _ _ _
  rw [n1, if_neg Bool.false_ne_true]
  unfold getAttrByItsOwn hookBefore
  refine wpAny_bind ?_
  have on : onTheHeap (Value.ref D) = true := rfl
  rw [if_pos on]
  refine M2.at (wpAny_bind (wpAny_attempt (wpAny_holding ?_)))
  unfold callGetattribute
  rw [n0, if_neg Bool.false_ne_true]
  unfold boundAndCalled
  rw [PySem.F.excAttr_ValueError.ga.bind (.ref x)]
  refine wpAny_bind (wpAny_pure ?_)
  show wpAny _ _ (call (.builtin "BaseException.__getattribute__") [.ref x, .str "__class__" t]) _ _ _
  refine wpAny_call (codeAny_call_builtin PySem.F.excAttr_ValueError.ga.plain PySem.F.entry_bexc_ga (@check_slot (model prog w) _ _ ⟨hp, g, d, t + 1, os⟩ "BaseException.__getattribute__" "BaseException" "__getattribute__" (.ref x) [.str "__class__" t] [] _ (by decide +kernel) (by decide +kernel) sb (PySem.F.args_bexc_ga (.ref x) (.str "__class__" t)) ?_))
  unfold Builtin.«object.__getattribute__»
  refine wpAny_bind (wpAny_of_eq (a := ((Value.ref x : Value), [Value.str "__class__" t])) (by first | rfl | (simp only [slotArgs]; rfl)) (wpAny_bind (wpAny_pure (wpAny_bind (M0.at (wpAny_bind (M3.at ?_)))))))
  show wpAny _ _ (holding [Value.builtin "object.__class__"] (call (.builtin "getset_descriptor.__get__") [.builtin "object.__class__", .ref x, .ref D]) >>= ret) _ _ _
  refine wpAny_bind (wpAny_holding (wpAny_call (class_get (s := ⟨hp, g, d, t + 1, os⟩) (ox := ox) (od := od) X I T.hm (wpAny_pure ?_))))
  show wpAny _ _ (handedOut (.ref D)) _ _ _
  rw [handedOut_of (v := .ref D) rfl]
  first
    | exact wpAny_pure (wpAny_pure h)
    | exact wpAny_pure h
    | exact wpAny_pure (wpAny_bind (wpAny_pure (wpAny_pure h)))
theorem kit_exc (T : ExcC K D) : KitX K (.ref x) (.ref D) (fun h => ∃ od, InstAt h x ox D od) where
  ty := fun _ _ _ I => I.elim fun _ I => I.type
  it := fun _ _ X _ => by
    obtain ⟨cd, e, _⟩ := any_some T.hd
    unfold clsIn at e
    split at e
    · rename_i ho
      intro A' Q' E' s' k q
      unfold isType loadHead
      exact wpAny_bind (wpAny_loadPart (k _ _ (X _ _ ho)) (wpAny_pure q))
    · cases e
  ne := fun h tp dd its n sl X htp => by
    obtain ⟨cd, e, _⟩ := any_some T.hd
    refine Bool.eq_false_iff.mpr fun q => ?_
    have eq : D = tp := Value.ref.inj (beq_iff_eq.mp q)
    subst eq
    unfold clsIn at e
    split at e
    · rename_i ho
      have z := (X _ _ ho).symm.trans htp
      cases z
    · cases e
  ca := fun X I k => I.elim fun _ I => class_of_exc T X I k
end
end Fv
namespace Fv
open PySem PySem.Spec PyProof.Rows L2
/-- called while an exception, p, is handled: it stands in the state, out of what is tracked -/
structure FnP (P : Program) (w : World) (K : PySem.W.Frag) (mg : Str → Option Value) (base : Heap) (k : Nat) (f : Addr) (fd : FuncData) (ps : List Str) (sp : Addr → Value → Option Addr → Sp) : Prop where
  wide : ∀ a c d xs H Q E, sp a c d xs H Q E → xs.length = ps.length
  go : ∀ (A : Around) (fr : List Env) (s : Shared) (H : Hp) (us : List Value) (xs : List V) (Q : VK) (E : XK) (p : Addr × Obj), L2H.RoomH k A → L2H.PinOk fr H s p → (∃ vs, p.2.data = .fields vs) → Env0 P w K mg base A fr s H →
    (∀ t : Shared, BindsTo t fd ⟨us, []⟩ (ps.zip us)) → Vals xs us → sp p.1 p.2.cls p.2.dict xs H Q E → codeAny (model P w) A (.call (.ref f) ⟨us, []⟩) (CR CX0 fr P w H s Q E) s
section
variable {P : Program} {w : World} {K : PySem.W.Frag} {mg : Str → Option Value} {base : Heap}
theorem okP {x qual : Str} {st : Stmt} {f : Addr} {fd : FuncData} {N ps : List Str} {k : Nat} {sp : Addr → Value → Option Addr → Sp} (F : Fun K x qual st f fd) (S : FnScope N ps (defScope st)) (wide : ∀ a c d xs H Q E, sp a c d xs H Q E → xs.length = ps.length)
    (body : ∀ (cdv : Value) (A : Around) (fr : List Env) (s : Shared) (H : Hp) (xs : List V) (Q : VK) (E : XK) (p : Addr × Obj), L2H.RoomH k (A.deeper (envOfC qual (defScope st) s.heap.objs.size f cdv)) → (∃ vs, p.2.data = .fields vs) → sp p.1 p.2.cls p.2.dict xs H Q E →
      ∃ t, PSs (L2H.cxH CX0 P w K mg base N qual (defScope st) f cdv A fr s H E p).nox (defBody st) t ∧ t { nx := fun _ H' => Q .non H', rt := Q } (start N xs) H) : FnP P w K mg base (k + 1) f fd ps sp := by
  obtain ⟨oc, od, kV, doc, pm, an, cdv, ct, osl, rfl, lk, hcd⟩ := F.ex
  refine ⟨wide, fun A fr s H us xs Q E p hr pin hf e0 hb r hs => ?_⟩
  have old : ∀ b o, base.get? b = some o → s.heap.get? b = some o := fun b o e => (e0.bs b o e).1
  have inK : K.In s.heap := e0.mod.kin.keeps old
  have kinds : ∀ y ∈ ps.zip us, (defScope st).names.lookup y.1 = some .local ∨ ((defScope st).names.lookup y.1 = some .cell ∧ ((cellsFrom (s.heap.objs.size + 1) (defScope st).names []).lookup y.1).isSome = true) := by
    rintro ⟨n, v⟩ hy
    rcases S.par n (List.of_mem_zip hy).1 with q | q
    · exact Or.inl q
    · exact Or.inr ⟨q, PySem.W.cellsFrom_some _ _ _ (Or.inl q)⟩
  refine codeAny_call_function hr.depth (inK _ _ lk) rfl S.co S.gen rfl (PySem.W.codeRec_of inK hcd) (hb _ _ _ _ _ ?_)
  refine wpAny_newFunctionEnv_cells S.kind kinds fun env he s1 ic => ?_
  subst he
  refine ⟨(e0.mod.nolimit.keeps old).keeps ic.toInCall.keep, codeAny_func ?_⟩
  obtain ⟨t, ht, hq⟩ := body cdv A fr s H xs Q E p (hr.deeper _) hf hs
  have I := L2H.inv_startH (CX := CX0) (E := E) S pin e0 (wide _ _ _ _ _ _ _ hs) r ic
  refine wpAny_mono (ht.nox.run [] s1 (start N xs) H _ I hq) (fun fl s' z => ?_) fun _ _ z => z
  cases fl with
  | ret u =>
    obtain ⟨v, σ', H', J, rv, q⟩ := z
    exact ⟨v, H', J.os, J.bare, J.base, J.hok, rv, q⟩
  | next =>
    obtain ⟨σ', H', J, q⟩ := z
    exact ⟨V.non, H', J.os, J.bare, J.base, J.hok, rfl, q⟩
  | brk =>
    obtain ⟨_, _, _, q⟩ := z
    exact q.elim
  | cont =>
    obtain ⟨_, _, _, q⟩ := z
    exact q.elim
end
section
variable {X : Cx} {k : Nat} {f : Addr} {fd : FuncData} {ps : List Str} {sp : Addr → Value → Option Addr → Sp} {x : Str} {q0 pos : Pos} {e : Expr} {es : List Expr} {t : TA} {a0 : Addr} {oe0 : Obj} {cls0 : Value} {d0 : Option Addr}
theorem pe_callP (F : FnP X.prog X.w X.K X.mg X.base k f fd ps sp) (hr : L2H.RoomH k X.A) (hp : (a0, oe0) ∈ X.pn) (hz : Zc cls0 d0 oe0) (hf : ∃ vs, oe0.data = .fields vs) (hg : Gl X x) (hm : X.mg x = some (.ref f)) (hk : PySem.W.keepIn X.K (.ref f) = true) (hbs : BindG fd ps)
    (ha : PA X (e :: es) t) (hdb : (x == ("__debug__" : Str)) = false := by decide) (he : starEach (e :: es) X.env = (false, eval e X.env) :: starEach es X.env := by rfl) (hpl : (backTo pos (starEach es X.env)).any (·.1) = false := by rfl) :
    PE X (.Call (.Name x q0) (e :: es) [] pos) (fun σ H Q => t σ H fun vs H1 => sp a0 cls0 d0 vs H1 Q E0) := by
  refine ⟨fun pins s σ H Q I h => wpAny_Call_Name_kw (ld_glob I hg hm ?_ hdb)⟩
  refine PySem.W.callWith_K (h₀ := X.base) I.ok.mod.kin hk (thn (ha.run pos pins s σ H _ I h) fun us s1 ⟨vs, H1, I1, r, q⟩ => ⟨I1.kIn, ?_⟩) he hpl
  have hl : us.length = ps.length := by rw [← r.length]; exact F.wide _ _ _ _ _ _ _ q
  have P1 := I1.pin (a0, oe0) (List.mem_append_left _ hp)
  have pin : L2H.PinOk X.stack H1 s1 (a0, oe0) := ⟨P1.1, P1.2.1, fun m => (List.mem_cons.mp (I1.stkSub a0 m)).elim P1.2.2.1 P1.2.2.2.1, P1.2.2.2.2⟩
  refine wpAny_call (codeAny_mono (F.go X.A X.stack s1 H1 us vs Q E0 (a0, oe0) hr pin hf I1.env0 (hbs us hl) r (by rw [hz.1, hz.2]; exact q)) fun res s' hq => ?_)
  cases res with
  | error e => exact False.elim hq
  | ok fl =>
    cases fl with
    | ret u => exact I1.after hq
    | next => exact False.elim hq
    | brk => exact False.elim hq
    | cont => exact False.elim hq
/-- what an exception bears: its class, its own dict (if any) tracked -/
def Bears (H : Hp) (oe : Obj) (D : Addr) (d : Option (Addr × List (Str × V))) : Prop :=
  oe.cls = .ref D ∧ (∃ vs, oe.data = .fields vs) ∧ match d with
    | none => oe.dict = none
    | some (dd, fs) => oe.dict = some dd ∧ H dd = some (.xd fs)
theorem bears_at {pins : List (Addr × Obj)} {σ : L2.St} {H : Hp} {s : Shared} {oe : Obj} {a D : Addr} {d : Option (Addr × List (Str × V))} (I : Inv X pins σ H s) (hp : (a, oe) ∈ X.pn) (B : Bears H oe D d) : ∃ od, PySem.W.InstAt s.heap a oe D od := by
  obtain ⟨c, ⟨vs, hv⟩, hd⟩ := B
  have g := (I.pin (a, oe) (List.mem_append_left _ hp)).1
  cases d with
  | none =>
    refine ⟨none, g, c, by unfold PySem.W.notCls; rw [hv] <;> rfl, ?_⟩
    have hd : oe.dict = none := hd
    rw [hd]
    trivial
  | some d =>
    obtain ⟨dd, fs⟩ := d
    obtain ⟨h1, h2⟩ := hd
    obtain ⟨mA, ⟨o, es, ep, ho, r⟩, _⟩ := (show ObjOk X.prog X.w H s.heap dd (.xd fs) from I.hok dd _ h2)
    exact ⟨some o, g, c, by unfold PySem.W.notCls; rw [hv] <;> rfl, by rw [h1]; exact ho⟩
/-- isinstance(e, c), e the pinned exception -/
def rIsP (K : PySem.W.Frag) (a : Addr) (oe : Obj) : List V → Hp → VK → Prop := fun xs H Q => ∃ (D : Addr) (d : Option (Addr × List (Str × V))) (c : V) (u : Value) (b : Bool), xs = [.ref a, c] ∧ Bears H oe D d ∧ ExcC K D ∧ ClsV c u ∧ PySem.W.kitOne K (.ref D) u = some b ∧ Q (.bl b) H
theorem call_isP {a : Addr} {oe : Obj} (hp : (a, oe) ∈ X.pn) : CallR X (.builtin "isinstance") (rIsP X.K a oe) := by
  intro pins s σ H xs us Q I r h
  obtain ⟨D, d, c, u, b, rfl, B, C, k, e, q⟩ := h
  cases r with
  | cons rx rr =>
    cases rr with
    | cons rt rr =>
      cases rr
      cases rx
      have ec := k.eq rt
      subst ec
      exact PySem.W.kia_one (kit_exc C) I.kIn (bears_at I hp B) e (fun z => nomatch z) fun tk => ⟨.bl b, H, I.tok tk, rfl, q⟩
/-- e.f, e the pinned exception -/
def tXfP (K : PySem.W.Frag) (a : Addr) (oe : Obj) (n : Str) (te : TE) : TE := fun σ H Q => te σ H fun x H1 => x = .ref a ∧ ∃ (C dd : Addr) (fs : List (Str × V)) (v : V), Bears H1 oe C (some (dd, fs)) ∧ XfC K C ∧ PySem.W.findIn K (.ref C) n = some none ∧ fs.lookup n = some v ∧ Q v H1
theorem pe_xfP {a : Addr} {oe : Obj} {n : Str} {te : TE} (hp : (a, oe) ∈ X.pn) (he : PE X e te) (hb : attributeBase e n X.env (eval e X.env) = eval e X.env := by rfl) : PE X (.Attribute e n pos) (tXfP X.K a oe n te) := by
  refine ⟨fun pins s σ H Q I h => attr_of hb (thn (he.run pins s σ H _ I h) fun u s1 hh => ?_)⟩
  obtain ⟨x, H1, I1, rx, rfl, C, dd, fs, v, ⟨c1, ⟨vs, c2⟩, c3, c4⟩, T, hno, l, q⟩ := hh
  obtain rfl : u = Value.ref a := rx
  have g := (I1.pin (a, oe) (List.mem_append_left _ hp)).1
  obtain ⟨mA, hns, hr⟩ := (show ObjOk X.prog X.w H1 s1.heap dd (.xd fs) from I1.hok dd _ c4)
  obtain ⟨od, ho, hl⟩ := lookIn_ns hns
  obtain ⟨u, hu, ru⟩ := RelO.some_of (v := v) (o := mA n) (by rw [← l]; exact hr n)
  have J : PySem.W.InstAt s1.heap a oe C (some od) := ⟨g, c1, by unfold PySem.W.notCls; rw [c2] <;> rfl, by rw [c3]; exact ho⟩
  exact HandSPX.exc_get I1.kIn J T.ga T.gg T.exC (PySem.W.findObj_own T.hdC hno rfl (by rw [hl, hu])) (handed_of ru) ⟨v, H1, I1.tok _, ru, q⟩
/-- X(), X an own class without __init__ -/
theorem pmk_bare {C : Addr} {bmB : List Value} {B newId initId : String} (F : ExcBaseFacts B newId initId bmB) (q : PySem.W.excIn X.K C bmB newId = true) (gC : X.mg x = some (.ref C)) (kC : PySem.W.keepIn X.K (.ref C) = true) (r : Raises X (.ref C)) (hg : Gl X x)
    (hdb : (x == ("__debug__" : Str)) = false := by decide) : PMk X (.Call (.Name x q0) [] [] pos) (fun _ H Q => Q (.ref C) none H) := by
  intro pins s σ H Q I h
  refine wpAny_Call_Name_kw (ld_glob I hg gC ?_ hdb)
  refine PySem.W.callWith_K0 I.kIn kC ?_
  obtain ⟨bm, N, nm, qn, bs, hdct, sn, sub, ab, col, dd, k0, k1, k2, k3, k5, mN, hC, hN, hni, T⟩ := exc_obj I.kIn q
  exact wpAny_call_exc_subT F T hC hN hni (fun h' e hm => mk_of I hm r h (I.hok.gone hm.new)) (by show 0 ≤ sizeLine; exact Nat.zero_le _)
end
end Fv


set_option Elab.async false
set_option linter.all false
set_option maxRecDepth 100000
set_option maxHeartbeats 1000000
namespace Fv
open PySem PySem.Spec PyProof.Rows L2
/-- a value that is compared at once: flat, or one object -/
def Plain (v : V) : Prop := flatB v = true ∨ ∃ c, v = .ref c
theorem same_items {P : Program} {w : World} {A : Around} {s : Shared} : ∀ {xs : List V} {us ws : List Value}, (∀ v ∈ xs, Plain v) → Vals xs us → Vals xs ws → ∀ j (h1 : j < us.length) (h2 : j < ws.length), SeqAt.EqAt A s us[j] ws[j] true
  | _, _, _, _, .nil, .nil, j, h1, _ => absurd h1 (Nat.not_lt_zero j)
  | v :: xs, _, _, h, .cons a t, .cons b u, 0, _, _ => by
    rcases h v List.mem_cons_self with f | ⟨c, rfl⟩
    · exact eqAt_same a b f
    · cases a
      cases b
      exact SeqAt.EqAt.same _
  | v :: xs, _, _, h, .cons a t, .cons b u, j + 1, h1, h2 => same_items (P := P) (w := w) (fun x hx => h x (List.mem_cons_of_mem _ hx)) t u j (Nat.lt_of_succ_lt_succ h1) (Nat.lt_of_succ_lt_succ h2)
def rNeSame (K : PySem.W.Frag) : R2 := fun x y H Q => ∃ (a b : Addr) (xs : List V), x = .ref a ∧ y = .ref b ∧ SqL K H a xs ∧ SqL K H b xs ∧ (∀ v ∈ xs, Plain v) ∧ Q (.bl false) H
section
variable {X : Cx}
theorem op_neSame (hu : X.A.units + 64 < cLine) : OpR X (compareOp .NotEq) (rNeSame X.K) := by
  intro pins s σ H x y v u Q I rx ry h
  obtain ⟨a, b, xs, rfl, rfl, ha, hb, hp, q⟩ := h
  cases rx
  cases ry
  obtain ⟨us, r1, p1, _⟩ := I.list ha
  obtain ⟨ws, r2, p2, _⟩ := I.list hb
  have hsz : us.toArray.size = ws.toArray.size := by rw [List.size_toArray, List.size_toArray, ← r1.length, ← r2.length]
  have he : ∀ j (j1 : j < us.toArray.size) (j2 : j < ws.toArray.size), SeqAt.EqAt X.A.in1 s us.toArray[j] ws.toArray[j] ((fun _ => true) j) := fun j j1 j2 => by
    have := same_items (P := X.prog) (w := X.w) (A := X.A.in1) (s := s) hp r1 r2 j (by simpa using j1) (by simpa using j2)
    simpa using this
  have ne := SeqAt.RcNeAt.lists p1.isList p2.isList hsz (by omega) he
  refine ne X.prog X.w _ _ ?_
  rw [show ((List.range us.toArray.size).all fun _ => true) = true from List.all_eq_true.mpr fun _ _ => rfl]
  exact ⟨.bl false, H, I, rfl, q⟩
/-- lists put together, cut: new lists at none of the first places -/
def rCatB : R2 := fun x y H Q => ∃ (l b : Addr) (xs zs : List V), x = .ref l ∧ y = .ref b ∧ H l = some (.lst xs) ∧ H b = some (.lst zs) ∧ xs.length + zs.length ≤ sizeLine ∧ ∀ p, H p = none → p ≠ sysModules → Q (.ref p) (upd H p (.lst (xs ++ zs)))
theorem op_catB : OpR X (binaryOp .Add) rCatB := by
  intro pins s σ H x y v u Q I rx ry h
  obtain ⟨l, b, xs, zs, rfl, rfl, e1, e2, hz, q⟩ := h
  cases rx
  cases ry
  obtain ⟨_, us, n, r, _, g⟩ := I.lstM e1
  obtain ⟨_, ws, m, r2, _, g2⟩ := I.lstM e2
  have hl := r.length
  have hl2 := r2.length
  refine PySem.P.add_list g g2 ?_ (by rw [List.size_toArray, List.size_toArray]; omega)
  rw [show us.toArray ++ ws.toArray = (us ++ ws).toArray from by simp]
  exact ⟨.ref _, _, I.lnew (t' := s.toks) (r.append r2) (by rw [List.length_append]; omega), rfl, q _ I.fresh (Nat.ne_of_gt I.big)⟩
def rSlB (K : PySem.W.Frag) : V → Option Int → Option Int → Hp → VK → Prop := fun x lo hi H Q => ∃ (a : Addr) (xs : List V), x = .ref a ∧ SqL K H a xs ∧ ∀ p, H p = none → p ≠ sysModules → Q (.ref p) (upd H p (.lst (cutV xs lo hi)))
theorem sl_listB : SlR X (rSlB X.K) := by
  intro pins s σ H x v vl vu lo hi sl Q I rx hs pl pu h
  obtain ⟨a, xs, rfl, hx, q⟩ := h
  cases rx
  obtain ⟨us, r, pt, hz⟩ := I.list hx
  have hlen := r.length
  refine ⟨"list", _, slot_list_getitem.lookup, pt.isList.typeIs, wpAny_getItem_list_slice pt.isList hs pl pu .none (by simp) ?_ (by rw [List.size_toArray]; omega)⟩
  rw [slicePick_cut, ← hlen]
  have J : Inv X pins σ (upd H s.heap.objs.size (.lst (cutV xs lo hi))) { s with heap := s.heap.push { cls := .type "list", data := .seq ((us.drop (HT.sIx xs.length 0 lo)).take (HT.sIx xs.length xs.length hi - HT.sIx xs.length 0 lo)).toArray } } :=
    I.laid (t' := s.toks) (fun b ob q => Heap.get?_push_of_some _ q) (Nat.le_refl _) ⟨Nat.le_trans (cutV_length xs lo hi) hz, _, 0, (r.drop _).take _, Heap.get?_push_size _ rfl⟩
  exact ⟨.ref _, _, J, rfl, q _ I.fresh (Nat.ne_of_gt I.big)⟩
end
end Fv


set_option Elab.async false
set_option linter.all false
set_option maxRecDepth 100000
set_option maxHeartbeats 1000000
namespace Fv
open PySem PySem.Spec PyProof.Rows L2
def top (i : Nat) : Stmt := PySem.Challenge.pw_farapart_k13_facts_made.main.body.getD i (.Pass ⟨0, 0, 0, 0⟩)
abbrev sBag : Stmt := top 25
abbrev sTake : Stmt := top 26
/-! ### the bag -/
def bagV (p s : Int) (i : Nat) (c : Addr) : HO := .lst [.int p, .int s, .int i, .ref c]
structure BagIs (H : Hp) (b c : Addr) (cs : List Int) (p s : Int) (i : Nat) : Prop where
  at_ : H b = some (bagV p s i c)
  cells : H c = some (.lst (cs.map V.int))
  ne : c ≠ b
  p0 : 0 ≤ p
  s0 : 0 ≤ s
  cs0 : ∀ z ∈ cs, 0 ≤ z
def Bag (H : Hp) (b : Addr) : Prop := ∃ c cs p s i, BagIs H b c cs p s i
def BagAt (H : Hp) (b c : Addr) : Prop := ∃ cs p s i, BagIs H b c cs p s i
theorem BagAt.bag {H : Hp} {b c : Addr} (h : BagAt H b c) : Bag H b := ⟨c, h⟩
theorem BagIs.same {H : Hp} {b c d : Addr} {cs : List Int} {p s : Int} {i : Nat} (B : BagIs H b c cs p s i) (h : BagAt H b d) : d = c := by
  obtain ⟨cs', p', s', i', B'⟩ := h
  have e := B'.at_.symm.trans B.at_
  unfold bagV at e
  simp only [Option.some.injEq, HO.lst.injEq, List.cons.injEq, V.ref.injEq, and_true] at e
  exact e.2.2.2
theorem BagAt.put {H : Hp} {b c D : Addr} {o : HO} (h : BagAt H b c) (nb : D ≠ b) (nc : D ≠ c) : BagAt (upd H D o) b c := by
  obtain ⟨cs, p, s, i, B⟩ := h
  exact ⟨cs, p, s, i, by rw [upd_ne nb.symm]; exact B.at_, by rw [upd_ne nc.symm]; exact B.cells, B.ne, B.p0, B.s0, B.cs0⟩
theorem BagAt.new {H : Hp} {b c D : Addr} {o : HO} (h : BagAt H b c) (n : H D = none) : BagAt (upd H D o) b c ∧ D ≠ b ∧ D ≠ c := by
  obtain ⟨cs, p, s, i, B⟩ := id h
  have n1 := (ne_of_none B.at_ n).symm
  have n2 := (ne_of_none B.cells n).symm
  exact ⟨h.put n1 n2, n1, n2⟩
def Keep (b : Addr) (H H' : Hp) : Prop := ∀ a o, a ≠ b → H a = some o → H' a = some o
theorem Keep.refl {b : Addr} {H : Hp} : Keep b H H := fun _ _ _ e => e
theorem Keep.trans {b : Addr} {H H1 H2 : Hp} (h : Keep b H H1) (k : Keep b H1 H2) : Keep b H H2 := fun a o n e => k a o n (h a o n e)
theorem Keep.upd {b : Addr} {H : Hp} {o : HO} : Keep b H (upd H b o) := fun a u n e => by rw [upd_ne n]; exact e
theorem Keep.new {b p : Addr} {H : Hp} {o : HO} (n : H p = none) : Keep b H (L2.upd H p o) := fun a u _ e => by rw [upd_ne (ne_of_none e n)]; exact e
theorem Bag.new {b p : Addr} {H : Hp} {o : HO} (B : Bag H b) (n : H p = none) : Bag (upd H p o) b := by
  obtain ⟨c, cs, q, s, i, B⟩ := B
  exact ⟨c, cs, q, s, i, by rw [upd_ne (ne_of_none B.at_ n)]; exact B.at_, by rw [upd_ne (ne_of_none B.cells n)]; exact B.cells, B.ne, B.p0, B.s0, B.cs0⟩
theorem BagIs.set {H : Hp} {b c : Addr} {cs : List Int} {p s p' s' : Int} {i i' : Nat} (B : BagIs H b c cs p s i) (hp : 0 ≤ p') (hs : 0 ≤ s') : BagIs (upd H b (bagV p' s' i' c)) b c cs p' s' i' :=
  ⟨upd_same, by rw [upd_ne B.ne]; exact B.cells, B.ne, hp, hs, B.cs0⟩
theorem cutK {t u : TS} {D : Ends} {σ : L2.St} {H : Hp} (P : L2.St → Hp → Prop) (k : ∀ σ' H', P σ' H' → u D σ' H') (h : (∀ σ' H', P σ' H' → u D σ' H') → tSeq t u D σ H) : tSeq t u D σ H := h k
theorem asgC {v : V} {i : Nat} {u : TS} {D : Ends} {σ : L2.St} {H : Hp} (h : u D (σ.set i (some v)) H) : tSeq (tAsg (tC v) (gName i)) u D σ H := h
theorem nz1 : (1000000007 : Int) ≠ 0 := by decide
theorem nz2 : (998244353 : Int) ≠ 0 := by decide
theorem nz3 : (2147483647 : Int) ≠ 0 := by decide
theorem modN {a m : Int} (ha : 0 ≤ a) (hm : 0 < m) : ∃ r : Nat, a.fmod m = (r : Int) ∧ (r : Int) < m := by
  have e : a.fmod m = a % m := Int.fmod_eq_emod_of_nonneg a (by omega)
  have h0 : 0 ≤ a % m := Int.emod_nonneg a (by omega)
  have h1 : a % m < m := Int.emod_lt_of_pos a hm
  exact ⟨(a % m).toNat, by rw [e]; omega, by omega⟩
section
variable {P : Program} {w : World} {K : PySem.W.Frag} {mg : Str → Option Value} {base : Heap}
def spTake : Sp := fun vs H Q _ => ∃ (b : Addr) (m : Int), vs = [.ref b, .int m] ∧ Bag H b ∧ 0 < m ∧ m ≤ 1000000 ∧ ∀ (r : Nat) (H' : Hp), (r : Int) < m → Bag H' b → Keep b H H' → (∀ c, BagAt H b c → BagAt H' b c) → Q (.int r) H'
theorem scT : FnScope ["_law_bag_here", "_law_many", "_law_cell", "_law_mixed_here", "_law_value", "_law_begin", "_law_second"] ["_law_bag_here", "_law_many"] (defScope sTake) := ⟨rfl, rfl, rfl, by decide +kernel, rfl, by decide +kernel, by decide +kernel⟩
theorem ok_take {f : Addr} {fd : FuncData} (F : Fun K "_law_take" "_law_take" sTake f fd) (mi : mg "int" = none) (ml : mg "len" = none) : FnOk P w K mg base CX0 1 f fd ["_law_bag_here", "_law_many"] spTake := by
  refine F.ok scT (fun vs H Q E h => ?_) (fun cdv A outer s H vs Q E hr h => ?_)
  · obtain ⟨b, m, rfl, _⟩ := h
    rfl
  · obtain ⟨b, m, rfl, B, m0, m1, q⟩ := h
    refine ⟨_, pss_cons (ps_if (pt_cmpR op_eq (pe_ix ix_list (pv 0) pe_int (fun _ _ => rfl)) pe_int (nomark _))
        (pss_cons (ps_set (i := 2) scT.nd rfl (.inl rfl) pe_int)
        (pss_cons (ps_if (pt_cmpR op_lt (pe_ix ix_list (pv 0) pe_int (fun _ _ => rfl)) (pe_callB call_len_seq (by rfl) ml PySem.boot_len (pa_cons (pe_ix ix_list (pv 0) pe_int (fun _ _ => rfl)) pa_nil)) (nomark _))
          (pss_one (ps_set (i := 2) scT.nd rfl (.inl rfl) (pe_ix ix_list (pe_ix ix_list (pv 0) pe_int (fun _ _ => rfl)) (pe_ix ix_list (pv 0) pe_int (fun _ _ => rfl)) (fun _ _ => rfl)))) pss_nil)
        (pss_cons (ps_augS (pv 0) pe_int pget_list pe_int ip_add set_list)
        (pss_cons (ps_if (pt_cmpR op_ge (pv 2) pe_int (nomark _)) (pss_one (ps_asg (pv 2) (pg_sub (pv 0) pe_int set_list))) pss_nil)
        (pss_cons (ps_set (i := 3) scT.nd rfl (.inl rfl) (pe_op op_add (pe_op op_add (pe_op op_mul (pe_ix ix_list (pv 0) pe_int (fun _ _ => rfl)) pe_int) (pe_op op_modN (pe_callTy call_int1 (by rfl) mi (by decide +kernel) (pa_cons (pv 2) pa_nil)) pe_int))
          (pe_op op_mul pe_int (pe_ix ix_list (pv 0) pe_int (fun _ _ => rfl)))))
        (pss_one (ps_asg (pe_op op_modN (pe_callTy call_int1 (by rfl) mi (by decide +kernel) (pa_cons (pv 3) pa_nil)) pe_int) (pg_sub (pv 0) pe_int set_list)))))))) pss_nil)
      (pss_cons (ps_if (pt_cmpR op_gt (pe_ix ix_list (pv 0) pe_int (fun _ _ => rfl)) pe_int (nomark _))
        (pss_cons (ps_set (i := 4) scT.nd rfl (.inl rfl) (pe_op op_modN (pe_callTy call_int1 (by rfl) mi (by decide +kernel) (pa_cons (pe_ix ix_list (pv 0) pe_int (fun _ _ => rfl)) pa_nil)) (pv 1)))
        (pss_cons (ps_asg (pe_op op_fdivN (pe_ix ix_list (pv 0) pe_int (fun _ _ => rfl)) (pv 1)) (pg_sub (pv 0) pe_int set_list))
        (pss_one (ps_ret (pv 4))))) pss_nil)
      (pss_cons (ps_set (i := 5) scT.nd rfl (.inl rfl) (pe_op op_modN (pe_callTy call_int1 (by rfl) mi (by decide +kernel) (pa_cons (pe_op op_mul (pe_op op_add (pe_ix ix_list (pv 0) pe_int (fun _ _ => rfl)) pe_int) pe_int) pa_nil)) pe_int))
      (pss_cons (ps_set (i := 6) scT.nd rfl (.inl rfl) (pe_op op_modN (pe_callTy call_int1 (by rfl) mi (by decide +kernel) (pa_cons (pe_op op_mul (pe_op op_modN (pe_callTy call_int1 (by rfl) mi (by decide +kernel) (pa_cons (pe_op op_mul (pv 5) (pv 5)) pa_nil)) pe_int) pe_int) pa_nil)) pe_int))
      (pss_cons (ps_if (pt_cmpR op_gt (pv 1) pe_int (nomark _)) (pss_one ps_never) pss_nil)
      (pss_one (ps_ret (pe_op op_modN (pe_callTy call_int1 (by rfl) mi (by decide +kernel) (pa_cons (pe_op op_fdivN (pv 6) pe_int) pa_nil)) (pv 1)))))))), ?_⟩
    refine cutK (fun σ' H' => ∃ c x : Option V, σ' = [some (.ref b), some (.int m), c, x, none, none, none] ∧ Bag H' b ∧ Keep b H H' ∧ ∀ c, BagAt H b c → BagAt H' b c) ?_ (fun k => ?_)
    · rintro σ' H' ⟨c, x, rfl, B', kp, st⟩
      obtain ⟨cc, cs, p, s, i, B'⟩ := B'
      have hb : SqL K H' b [.int p, .int s, .int i, .ref cc] := SqL.of B'.at_
      have mne : m ≠ 0 := by omega
      refine ⟨_, rfl, b, _, _, _, rfl, rfl, hb, atI_nat (j := 0) rfl, _, _, rfl, rfl, _, rfl, ite2 (fun e => ?_) (fun e => ?_)⟩
      · obtain ⟨r, er, r1⟩ := modN B'.p0 m0
        refine ⟨_, rfl, b, _, _, _, rfl, rfl, hb, atI_nat (j := 0) rfl, .inl ⟨_, rfl, _, rfl, _, _, rfl, rfl, mne, ?_⟩⟩
        refine ⟨_, rfl, b, _, _, _, rfl, rfl, hb, atI_nat (j := 0) rfl, _, rfl, _, _, rfl, rfl, ⟨mne, by omega⟩, _, rfl, b, _, _, _, rfl, rfl, B'.at_, rfl, ?_⟩
        refine ⟨_, rfl, ?_⟩
        show Q (V.int (p.fmod m)) _
        rw [er]
        have Bd : BagIs (upd H' b (bagV (p.fdiv m) s i cc)) b cc cs (p.fdiv m) s i := B'.set (Int.fdiv_nonneg B'.p0 (by omega)) B'.s0
        refine q r _ r1 ⟨cc, cs, _, _, _, Bd⟩ (kp.trans Keep.upd) fun c hc => ?_
        rw [B'.same (st c hc)]
        exact ⟨cs, _, _, _, Bd⟩
      · obtain ⟨g, eg, g1⟩ := modN (a := (s + 1) * 39373) (m := 1000000007) (by have := B'.s0; omega) (by decide)
        refine ⟨_, rfl, b, _, _, _, rfl, rfl, hb, atI_nat (j := 1) rfl, _, _, rfl, rfl, _, _, rfl, rfl, .inr ⟨by decide, by decide⟩, .inl ⟨_, rfl, _, _, rfl, rfl, nz1, ?_⟩⟩
        dsimp only
        rw [eg]
        obtain ⟨g2, eg2, g3⟩ := modN (a := (g : Int) * g) (m := 998244353) (Int.mul_nonneg (by omega) (by omega)) (by decide)
        refine ⟨_, rfl, _, rfl, _, _, rfl, rfl, .inl ⟨by omega, by omega⟩, .inl ⟨_, rfl, _, _, rfl, rfl, nz2, ?_⟩⟩
        dsimp only
        rw [eg2]
        obtain ⟨g4, eg4, g5⟩ := modN (a := (g2 : Int) * 30011) (m := 998244353) (by omega) (by decide)
        refine ⟨_, _, rfl, rfl, .inr ⟨by decide, by decide⟩, .inl ⟨_, rfl, _, _, rfl, rfl, nz2, ?_⟩⟩
        dsimp only
        rw [eg4]
        refine ⟨_, rfl, _, _, rfl, rfl, _, rfl, ite2 (fun e => ?_) (fun e => ?_)⟩
        · exact absurd (of_decide_eq_true e) (by omega)
        · obtain ⟨r, er, r1⟩ := modN (a := (g4 : Int).fdiv 7) (m := m) (Int.fdiv_nonneg (by omega) (by decide)) m0
          refine ⟨_, rfl, _, _, rfl, rfl, ⟨by decide, by decide⟩, .inl ⟨_, rfl, _, rfl, _, _, rfl, rfl, mne, ?_⟩⟩
          show Q (V.int (((g4 : Int).fdiv 7).fmod m)) _
          rw [er]
          exact q r _ r1 ⟨cc, cs, p, s, i, B'⟩ kp st
    · obtain ⟨cc, cs, p, s, i, B⟩ := B
      have hb : SqL K H b [.int p, .int s, .int i, .ref cc] := SqL.of B.at_
      refine ⟨_, rfl, b, _, _, _, rfl, rfl, hb, atI_nat (j := 0) rfl, rfl, _, rfl, ite2 (fun e => ?_) (fun e => ?_)⟩
      · -- what follows the reading of the cell
        refine asgC ?_
        refine cutK (fun σ' H' => ∃ z : Int, 0 ≤ z ∧ σ' = [some (.ref b), some (.int m), some (.int z), none, none, none, none] ∧ H' = H) ?_ (fun k2 => ?_)
        · rintro σ' H' ⟨z, z0, rfl, rfl⟩
          refine ⟨_, rfl, b, _, 2, _, rfl, rfl, hb, rfl, _, _, rfl, rfl, b, _, _, _, rfl, rfl, B.at_, rfl, ?_⟩
          have B1 : BagIs (upd H' b (bagV p s (i + 1) cc)) b cc cs p s (i + 1) := B.set B.p0 B.s0
          dsimp only
          refine cutK (fun σ1 H1 => σ1 = [some (.ref b), some (.int m), some (.int z), none, none, none, none] ∧ Keep b H' H1 ∧ ∃ p', BagIs H1 b cc cs p' s (i + 1)) ?_ (fun k3 => ?_)
          · rintro σ1 H1 ⟨rfl, kp, p', B2⟩
            have hb2 : SqL K H1 b [.int p', .int s, .int ((i + 1 : Nat) : Int), .ref cc] := SqL.of B2.at_
            refine ⟨_, rfl, b, _, _, _, rfl, rfl, hb2, atI_nat (j := 1) rfl, _, _, rfl, rfl, .inr ⟨by decide, by decide⟩, _, rfl, .inl ⟨_, rfl, _, _, rfl, rfl, nz3, ?_⟩⟩
            obtain ⟨g, eg, g1⟩ := modN (a := z) (m := 2147483647) z0 (by decide)
            dsimp only
            rw [eg]
            refine ⟨_, _, rfl, rfl, _, rfl, b, _, _, _, rfl, rfl, hb2, atI_nat (j := 2) rfl, _, _, rfl, rfl, .inl ⟨by decide, by decide⟩, _, _, rfl, rfl, ?_⟩
            obtain ⟨g2, eg2, g3⟩ := modN (a := s * 48271 + (g : Int) + 7919 * ((i + 1 : Nat) : Int)) (m := 2147483647) (by have := B.s0; omega) (by decide)
            refine ⟨_, rfl, .inl ⟨_, rfl, _, _, rfl, rfl, nz3, ?_⟩⟩
            dsimp only
            rw [eg2]
            refine ⟨_, rfl, b, _, _, _, rfl, rfl, B2.at_, rfl, ?_⟩
            exact k _ _ ⟨_, _, rfl, ⟨cc, cs, p', _, i + 1, B2.set (i' := i + 1) B2.p0 (Int.natCast_nonneg g2)⟩, kp.trans Keep.upd, fun c hc => by
              rw [B.same hc]
              exact ⟨cs, p', _, i + 1, B2.set (i' := i + 1) B2.p0 (Int.natCast_nonneg g2)⟩⟩
          · refine ⟨_, rfl, _, _, rfl, rfl, _, rfl, ite2 (fun e => ?_) (fun e => ?_)⟩
            · exact ⟨_, rfl, _, rfl, b, _, _, _, rfl, rfl, B1.at_, rfl, k3 _ _ ⟨rfl, Keep.upd.trans Keep.upd, z, B1.set (i' := i + 1) z0 B1.s0⟩⟩
            · exact k3 _ _ ⟨rfl, Keep.upd, p, B1⟩
        · refine ⟨_, rfl, b, _, _, _, rfl, rfl, hb, atI_nat (j := 2) rfl, _, rfl, b, _, _, _, rfl, rfl, hb, atI_nat (j := 3) rfl, cc, cs.map V.int, rfl, .inl (SqL.of B.cells), _, _, rfl, rfl, _, rfl, ite2 (fun e => ?_) (fun e => ?_)⟩
          · have hi : i < cs.length := by
              have := of_decide_eq_true e
              rw [List.length_map] at this
              omega
            have gi : (cs.map V.int)[i]? = some (.int cs[i]) := by
              rw [List.getElem?_map, List.getElem?_eq_getElem hi]
              rfl
            refine ⟨_, rfl, b, _, _, _, rfl, rfl, hb, atI_nat (j := 3) rfl, _, rfl, b, _, _, _, rfl, rfl, hb, atI_nat (j := 2) rfl, cc, _, _, _, rfl, rfl, SqL.of B.cells, atI_nat gi, ?_⟩
            exact k2 _ _ ⟨cs[i], B.cs0 _ (List.getElem_mem hi), rfl, rfl⟩
          · exact k2 _ _ ⟨0, by decide, rfl, rfl⟩
      · exact k _ _ ⟨none, none, rfl, ⟨cc, cs, p, s, i, B⟩, Keep.refl, fun _ h => h⟩
end
end Fv


set_option Elab.async false
set_option linter.all false
set_option maxRecDepth 100000
set_option maxHeartbeats 1000000
namespace Fv
open PySem PySem.Spec PyProof.Rows L2
section
variable {P : Program} {w : World} {K : PySem.W.Frag} {mg : Str → Option Value} {base : Heap}
def spBag (K : PySem.W.Frag) : Sp := fun vs H Q _ => ∃ (a : Addr) (ns : List Int), vs = [.ref a] ∧ SqL K H a (ns.map V.int) ∧ ns.length ≤ 63 ∧ ∀ (b : Addr) (H' : Hp), Bag H' b → Same H H' → Q (.ref b) H'
theorem scB : FnScope ["_law_script", "_law_cell"] ["_law_script"] (defScope sBag) := ⟨rfl, rfl, rfl, by decide +kernel, rfl, by decide +kernel, by decide +kernel⟩
theorem ok_bag {f : Addr} {fd : FuncData} (F : Fun K "_law_bag" "_law_bag" sBag f fd) (ma : mg "abs" = none) : FnOk P w K mg base CX0 1 f fd ["_law_script"] (spBag K) := by
  refine F.ok scB (fun vs H Q E h => ?_) (fun cdv A outer s H vs Q E hr h => ?_)
  · obtain ⟨b, m, rfl, _⟩ := h
    rfl
  · obtain ⟨a, ns, rfl, hS, hlen, q⟩ := h
    refine ⟨_, pss_one (ps_ret (pe_lst (pa_cons pe_int (pa_cons pe_int (pa_cons pe_int (pa_cons
      (pe_lc (own := [("_law_cell", 1)]) (g := gName 1) (tt := tYes) rfl scB.nd (pi_list (pe_slice sl_list (pv 0) po_none (po_some pe_int))) (blkOk_by (N := ["_law_script", "_law_cell"]) (sc := defScope sBag) (by decide +kernel))
        (fun _ _ _ _ _ => pg_name (i := 1) scB.nd rfl (Or.inl rfl)) (fun _ _ _ _ _ => pts_nil) (fun _ _ _ _ _ => pe_callB call_abs (by rfl) ma (by decide +kernel) (pa_cons (pv 1) pa_nil))) pa_nil)))))), ?_⟩
    refine ⟨_, rfl, _, rfl, a, ns.map V.int, rfl, hS, fun p np => ?_⟩
    have cut : cutV (ns.map V.int) none (some 63) = ns.map V.int := by
      unfold cutV
      rw [HT.sIx_none, show HT.sIx (ns.map V.int).length (ns.map V.int).length (some 63) = min 63 (ns.map V.int).length from HT.sIx_nat _ _ 63, List.drop_zero, List.length_map, List.take_of_length_le (by rw [List.length_map]; omega)]
    rw [cut]
    refine ⟨p, rfl, ⟨_, SqL.of upd_same⟩, fun D hD => ?_⟩
    have pD : p ≠ D := fun e => by rw [← e, upd_same] at hD; cases hD
    refine lc_list (K := K) (a := p) (xs := ns.map V.int) (fun i H1 => (∀ b o, H b = some o → H1 b = some o) ∧ H1 p = some (.lst (ns.map V.int)) ∧ H1 D = some (.lst ((ns.take i).map fun z => V.int (if z < 0 then -z else z)))) ?_ (fun i H1 _ h => SqL.of h.2.1) ?_ ?_
    · exact ⟨fun b o e => by rw [upd_ne (ne_of_none (by rw [upd_ne (ne_of_none e np)]; exact e) hD), upd_ne (ne_of_none e np)]; exact e, by rw [upd_ne pD]; exact upd_same, upd_same⟩
    · rintro i y H1 hi ⟨s1, e1, e2⟩
      obtain ⟨z, hz, rfl⟩ : ∃ z, ns[i]? = some z ∧ y = V.int z := by
        rw [List.getElem?_map] at hi
        cases e : ns[i]? with
        | none => rw [e] at hi; cases hi
        | some z => rw [e] at hi; exact ⟨z, rfl, (Option.some.inj hi).symm⟩
      have hn : i < ns.length := (List.getElem?_eq_some_iff.mp hz).1
      refine ⟨rfl, _, rfl, z, rfl, _, e2, ?_, ?_⟩
      · rw [List.length_map, List.length_take]
        exact small1000 (by omega)
      · refine ⟨fun b o e => ?_, by rw [upd_ne pD]; exact e1, ?_⟩
        · have : b ≠ D := ne_of_none (H := upd H p (.lst (ns.map V.int))) (by rw [upd_ne (ne_of_none e np)]; exact e) hD
          rw [upd_ne this]
          exact s1 b o e
        · rw [upd_same, List.take_add_one, hz, List.map_append]
          rfl
    · rintro H1 ⟨s1, e1, e2⟩
      refine ⟨by show 4 ≤ sizeLine; decide, fun b nb => ?_⟩
      rw [List.length_map, List.take_length] at e2
      refine q b _ ⟨D, ns.map fun z => if z < 0 then -z else z, 0, 1234567891, 0, ?_⟩ fun c o e => by rw [upd_ne (ne_of_none (s1 c o e) nb)]; exact s1 c o e
      refine ⟨upd_same, ?_, ne_of_none e2 nb, by decide, by decide, fun z hz => ?_⟩
      · rw [upd_ne (ne_of_none e2 nb), e2, List.map_map]
        rfl
      · obtain ⟨x, _, rfl⟩ := List.mem_map.mp hz
        split <;> omega
end
end Fv


set_option Elab.async false
set_option linter.all false
set_option maxRecDepth 100000
set_option maxHeartbeats 1000000
namespace Fv
open PySem PySem.Spec PyProof.Rows L2
def shortD : PyData → Prop := fun _ => True
theorem same_upd {H : Hp} {p : Addr} {o : HO} (h : H p = none) : Same H (upd H p o) := fun b x e => by
  rw [upd_ne (ne_of_none e h)]
  exact e
theorem Dq.plain {H : Hp} {b : Addr} {v : V} {d : PyData} (h : Dq H b v d) : Plain v := by
  cases h <;> first | exact .inl rfl | exact .inr ⟨_, rfl⟩
theorem Fine.line {d : PyData} (h : Fine d) : d.shown.length ≤ sizeLine := Nat.le_trans h.len (by decide)
theorem Fine.low {d : PyData} (h : Fine d) : d.depth ≤ 20 := Nat.le_trans h.deep (by decide)
end Fv


set_option Elab.async false
set_option linter.all false
set_option maxRecDepth 100000
set_option maxHeartbeats 2000000
namespace Fv
open PySem PySem.Spec PyProof.Rows L2
abbrev sOdd : Stmt := top 31
def ten (n : Nat) : Int := 10 ^ n
theorem int_zeros : ∀ n : Nat, n < 40 → PySem.intText? ("1" ++ zeros n) = some (ten n) ∧ (("1" : Str) ++ zeros n).length ≤ 640 := by decide +kernel
def oddD (n : Nat) (nm : Str) : List PyData := [.int 0, .int 1, .int (-1), .int (ten n), .int (-(ten n)), .bool true, .bool false, .none, .str "", .str "a", .str nm, .str (nm ++ "z"), .str "abcdefgh",
  .str "abcdefghi", .str "A", .str "a1", .str "a b",
  .str "plain", .str "high", .str "low", .str "Plain", .list [], .tuple [], .dict [], .list [.int 1], .tuple [.int 0], .tuple [.str nm], .dict [(.str nm, .int 1)], .list [.str nm], .tuple [.str "", .str "", .int 0]]
def NameOk (z : Str) : Prop := z.length ≤ 100 ∧ ∀ c ∈ z.cps.toList, c < 128
theorem NameOk.ok {z : Str} (h : NameOk z) : okS z := ⟨by have := h.1; omega, h.2⟩
theorem NameOk.more {z : Str} (h : NameOk z) : okS (z ++ "z") := by
  refine ⟨?_, ?_⟩
  · have e : ("z" : Str).length = 1 := by decide +kernel
    rw [strLen_append, e]
    have := h.1
    omega
  · intro c hc
    have e : (z ++ "z" : Str).cps.toList = z.cps.toList ++ ("z" : Str).cps.toList := by
      show (z.cps ++ _).toList = _
      simp
    rw [e] at hc
    rcases List.mem_append.mp hc with q | q
    · exact h.2 c q
    · have : ∀ c ∈ ("z" : Str).cps.toList, c < 128 := by decide +kernel
      exact this c q
def okB (z : Str) : Bool := decide (z.length ≤ 1000) && z.cps.toList.all fun c => decide (c < 128)
theorem okS_of {z : Str} (h : okB z = true) : okS z := by
  unfold okB at h
  simp only [Bool.and_eq_true, decide_eq_true_eq, List.all_eq_true] at h
  exact h
theorem fine_ten : ∀ n : Nat, n < 40 → (PyData.int (ten n)).showable = true ∧ (PyData.int (ten n)).shown.length ≤ 20000 ∧ (PyData.int (-(ten n))).showable = true ∧ (PyData.int (-(ten n))).shown.length ≤ 20000 := by decide +kernel
def Nice (d : PyData) : Prop := Fine d ∧ shortD d
theorem nice_str {z : Str} (h : okS z) : Nice (.str z) := ⟨Fine.str h, True.intro⟩
theorem fine_dec {d : PyData} (h : (d.showable && decide (d.shown.length ≤ 20000) && decide (d.depth ≤ 3)) = true) : Fine d := by
  simp only [Bool.and_eq_true, decide_eq_true_eq] at h
  exact ⟨h.1.1, h.1.2, h.2⟩
theorem odd_nice {n : Nat} {nm : Str} (hn : n < 40) (h : NameOk nm) : ∀ d ∈ oddD n nm, Nice d := by
  obtain ⟨t1, t2, t3, t4⟩ := fine_ten n hn
  intro d hd
  unfold oddD at hd
  simp only [List.mem_cons, List.not_mem_nil, or_false] at hd
  rcases hd with rfl | rfl | rfl | rfl | rfl | rfl | rfl | rfl | rfl | rfl | rfl | rfl | rfl | rfl | rfl | rfl | rfl | rfl | rfl | rfl | rfl | rfl | rfl | rfl | rfl | rfl | rfl | rfl | rfl | rfl
  · exact ⟨fine_dec (by decide +kernel), True.intro⟩
  · exact ⟨fine_dec (by decide +kernel), True.intro⟩
  · exact ⟨fine_dec (by decide +kernel), True.intro⟩
  · exact ⟨⟨t1, t2, by simp [PyData.depth]⟩, True.intro⟩
  · exact ⟨⟨t3, t4, by simp [PyData.depth]⟩, True.intro⟩
  · exact ⟨fine_dec (by decide +kernel), True.intro⟩
  · exact ⟨fine_dec (by decide +kernel), True.intro⟩
  · exact ⟨fine_dec (by decide +kernel), True.intro⟩
  · (refine nice_str (okS_of ?_); decide +kernel)
  · (refine nice_str (okS_of ?_); decide +kernel)
  · exact nice_str h.ok
  · exact nice_str h.more
  · (refine nice_str (okS_of ?_); decide +kernel)
  · (refine nice_str (okS_of ?_); decide +kernel)
  · (refine nice_str (okS_of ?_); decide +kernel)
  · (refine nice_str (okS_of ?_); decide +kernel)
  · (refine nice_str (okS_of ?_); decide +kernel)
  · (refine nice_str (okS_of ?_); decide +kernel)
  · (refine nice_str (okS_of ?_); decide +kernel)
  · (refine nice_str (okS_of ?_); decide +kernel)
  · (refine nice_str (okS_of ?_); decide +kernel)
  · exact ⟨fine_dec (by decide +kernel), True.intro⟩
  · exact ⟨fine_dec (by decide +kernel), True.intro⟩
  · exact ⟨fine_dec (by decide +kernel), True.intro⟩
  · exact ⟨fine_dec (by decide +kernel), True.intro⟩
  · exact ⟨fine_dec (by decide +kernel), True.intro⟩
  · exact ⟨Fine.one_tup h.ok, True.intro⟩
  · exact ⟨Fine.one_dct h.ok, True.intro⟩
  · exact ⟨Fine.one_lst h.ok, True.intro⟩
  · exact ⟨fine_dec (by decide +kernel), True.intro⟩
end Fv


set_option Elab.async false
set_option linter.all false
set_option maxRecDepth 100000
set_option maxHeartbeats 4000000
namespace Fv
open PySem PySem.Spec PyProof.Rows L2
def odd17 (n : Nat) (nm : Str) : List V := [.int 0, .int 1, .int (-1), .int (ten n), .int (-ten n), .bl true, .bl false, .non, .str "", .str "a", .str nm, .str (nm ++ "z"), .str "abcdefgh", .str "abcdefghi", .str "A", .str "a1", .str "a b"]
def spOdd : Sp := fun vs H Q _ => ∃ (b : Addr) (nm : Str), vs = [.ref b, .str nm] ∧ Bag H b ∧ NameOk nm ∧ ∀ (v : V) (d : PyData) (H' : Hp), Dq H' b v d → Nice d → Bag H' b → Keep b H H' → (∀ c, BagAt H b c → BagAt H' b c) → Q v H'
theorem item {H Hf : Hp} {p b a : Addr} {o : HO} (n : H a = none) (hp : ∃ u, H p = some u) (hb : ∃ u, H b = some u) (k : Keep p (upd H a o) Hf) : Hf a = some o ∧ a ≠ b := by
  obtain ⟨u, hp⟩ := hp
  obtain ⟨u', hb⟩ := hb
  exact ⟨k a o (ne_of_none hp n).symm upd_same, (ne_of_none hb n).symm⟩
theorem there {H H' : Hp} {a : Addr} (k : Same H H') (h : ∃ u, H a = some u) : ∃ u, H' a = some u := by
  obtain ⟨u, h⟩ := h
  exact ⟨u, k _ _ h⟩
theorem same_twice {H : Hp} {a : Addr} {o u : HO} (n : H a = none) : Same H (upd (upd H a o) a u) := fun c v e => by
  have z := ne_of_none e n
  rw [upd_ne z, upd_ne z]
  exact e
def odd30 (n : Nat) (nm : Str) (a1 a2 a3 a4 a5 a6 a7 a8 a9 : Addr) : List V := [.int 0, .int 1, .int (-1), .int (ten n), .int (-ten n), .bl true, .bl false, .non, .str "", .str "a", .str nm, .str (nm ++ "z"), .str "abcdefgh", .str "abcdefghi", .str "A", .str "a1", .str "a b",
  .str "plain", .str "high", .str "low", .str "Plain", .ref a1, .ref a2, .ref a3, .ref a4, .ref a5, .ref a6, .ref a7, .ref a8, .ref a9]
theorem odd_all {H : Hp} {b : Addr} {n : Nat} {nm : Str} {a1 a2 a3 a4 a5 a6 a7 a8 a9 : Addr} (g1 : H a1 = some (.lst [])) (b1 : a1 ≠ b) (m1 : a1 ≠ sysModules) (g2 : H a2 = some (.tup [])) (b2 : a2 ≠ b) (g3 : H a3 = some (.dK [])) (b3 : a3 ≠ b) (g4 : H a4 = some (.lst [.int 1])) (b4 : a4 ≠ b) (m4 : a4 ≠ sysModules)
    (g5 : H a5 = some (.tup [.int 0])) (b5 : a5 ≠ b) (g6 : H a6 = some (.tup [.str nm])) (b6 : a6 ≠ b) (g7 : H a7 = some (.dK [(Sum.inr nm, .int 1)])) (b7 : a7 ≠ b) (g8 : H a8 = some (.lst [.str nm])) (b8 : a8 ≠ b) (m8 : a8 ≠ sysModules) (g9 : H a9 = some (.tup [.str "", .str "", .int 0])) (b9 : a9 ≠ b) :
    DqAll H b (odd30 n nm a1 a2 a3 a4 a5 a6 a7 a8 a9) (oddD n nm) :=
  .cons (.int _) (.cons (.int _) (.cons (.int _) (.cons (.int _) (.cons (.int _) (.cons (.bl _) (.cons (.bl _) (.cons .non (.cons (.str _) (.cons (.str _) (.cons (.str _) (.cons (.str _) (.cons (.str _)
    (.cons (.str _) (.cons (.str _) (.cons (.str _) (.cons (.str _) (.cons (.str _) (.cons (.str _) (.cons (.str _) (.cons (.str _)
    (.cons (.lst g1 b1 m1 .nil) (.cons (.tup g2 b2 .nil) (.cons (.dct g3 b3 .nil .nil) (.cons (.lst g4 b4 m4 (.cons (.int _) .nil)) (.cons (.tup g5 b5 (.cons (.int _) .nil)) (.cons (.tup g6 b6 (.cons (.str _) .nil))
    (.cons (.dct g7 b7 (.cons (.str _) .nil) (.cons (.int _) .nil)) (.cons (.lst g8 b8 m8 (.cons (.str _) .nil)) (.cons (.tup g9 b9 (.cons (.str _) (.cons (.str _) (.cons (.int _) .nil)))) .nil)))))))))))))))))))))))))))))
theorem Keep.same {p : Addr} {H H' : Hp} (s : Same H H') : Keep p H H' := fun a o _ e => s a o e
theorem Bag.at_b {H : Hp} {b : Addr} (B : Bag H b) : ∃ o, H b = some o := by
  obtain ⟨c, cs, p, s, i, B⟩ := B
  exact ⟨_, B.at_⟩
theorem BagAt.same {H H' : Hp} {b c : Addr} (B : BagAt H b c) (k : Same H H') : BagAt H' b c := by
  obtain ⟨cs, p, s, i, B⟩ := B
  exact ⟨cs, p, s, i, k _ _ B.at_, k _ _ B.cells, B.ne, B.p0, B.s0, B.cs0⟩
theorem Bag.same {H H' : Hp} {b : Addr} (B : Bag H b) (k : Same H H') : Bag H' b := by
  obtain ⟨c, cs, p, s, i, B⟩ := B
  exact ⟨c, cs, p, s, i, k _ _ B.at_, k _ _ B.cells, B.ne, B.p0, B.s0, B.cs0⟩
section
variable {P : Program} {w : World} {K : PySem.W.Frag} {mg : Str → Option Value} {base : Heap}
theorem scO : FnScope ["_law_bag_here", "_law_name", "_law_wide", "_law_plain"] ["_law_bag_here", "_law_name"] (defScope sOdd) := ⟨rfl, rfl, rfl, by decide +kernel, rfl, by decide +kernel, by decide +kernel⟩
theorem ok_odd {f fT : Addr} {fd fdT : FuncData} (F : Fun K "_law_odd" "_law_odd" sOdd f fd) (GT : FnOk P w K mg base CX0 1 fT fdT ["_law_bag_here", "_law_many"] spTake) (bT : Binds K fdT ["_law_bag_here", "_law_many"] []) (mT : mg "_law_take" = some (.ref fT)) (kT : PySem.W.keepIn K (.ref fT) = true)
    (mi : mg "int" = none) (ml : mg "len" = none) : FnOk P w K mg base CX0 2 f fd ["_law_bag_here", "_law_name"] spOdd := by
  refine F.ok scO (fun vs H Q E h => ?_) (fun cdv A outer s H vs Q E hr h => ?_)
  · obtain ⟨b, nm, rfl, _⟩ := h
    rfl
  · obtain ⟨b, nm, rfl, B, hnm, q⟩ := h
    refine ⟨_, pss_cons (ps_set (i := 2) scO.nd rfl (.inl rfl) (pe_callTy call_int_str (by rfl) mi (by decide +kernel) (pa_cons (pe_op op_add_str pe_str (pe_op op_zeros pe_str (pe_call GT hr (by rfl) mT kT bT .nil pass0 (pa_cons (pv 0) (pa_cons pe_int pa_nil))))) pa_nil)))
      (pss_cons (ps_set (i := 3) scO.nd rfl (.inl rfl) (pe_lstB (pa_cons pe_int (pa_cons pe_int (pa_cons (pe_un un_neg pe_int) (pa_cons (pv 2) (pa_cons (pe_un un_neg (pv 2)) (pa_cons pe_bl (pa_cons pe_bl (pa_cons pe_non (pa_cons pe_str (pa_cons pe_str (pa_cons (pv 1) (pa_cons (pe_op op_add_str (pv 1) pe_str) (pa_cons pe_str pa_nil)))))))))))))))
      (pss_cons (ps_aug (i := 3) scO.nd rfl (.inl rfl) (pe_lstB (pa_cons pe_str (pa_cons pe_str (pa_cons pe_str (pa_cons pe_str pa_nil))))) iop_ext)
      (pss_cons (ps_aug (i := 3) scO.nd rfl (.inl rfl) (pe_lstB (pa_cons pe_str (pa_cons pe_str (pa_cons pe_str (pa_cons pe_str (pa_cons (pe_lstB pa_nil) (pa_cons (pe_tup pa_nil) (pa_cons pe_dnewK (pa_cons (pe_lstB (pa_cons pe_int pa_nil)) (pa_cons (pe_tup (pa_cons pe_int pa_nil)) (pa_cons (pe_tup (pa_cons (pv 1) pa_nil))
          (pa_cons (pe_disp (pps_cons (pv 1) pe_int pps_nil) (by rfl) (by rfl) (fun z => by cases z) (by decide)) (pa_cons (pe_lstB (pa_cons (pv 1) pa_nil)) (pa_cons (pe_tup (pa_cons pe_str (pa_cons pe_str (pa_cons pe_int pa_nil)))) pa_nil)))))))))))))) iop_ext)
      (pss_one (ps_ret (pe_ix ix_list (pv 3) (pe_call GT hr (by rfl) mT kT bT .nil pass0 (pa_cons (pv 0) (pa_cons (pe_callB call_len_seq (by rfl) ml PySem.boot_len (pa_cons (pv 3) pa_nil)) pa_nil))) (fun _ _ => rfl))))))), ?_⟩
    refine ⟨_, rfl, b, 40, rfl, B, by decide, by decide, fun n H1 hn B1 k1 gs1 => ?_⟩
    have hn' : n < 40 := by omega
    obtain ⟨it, il⟩ := int_zeros n (by omega)
    refine ⟨n, rfl, rfl, by omega, _, _, rfl, rfl, Nat.le_trans (by rw [← strLen_append]; exact il) (by decide), _, _, rfl, it, il, ?_⟩
    refine ⟨_, rfl, _, rfl, _, rfl, _, rfl, _, rfl, _, rfl, _, _, rfl, rfl, ?_, by show 13 ≤ sizeLine; decide, fun p np mp => ?_⟩
    · have h1 := hnm.1
      have h2 : ("z" : Str).length = 1 := by decide +kernel
      have h3 : 101 ≤ sizeLine := by decide
      rw [h2]
      omega
    have pb : p ≠ b := by
      obtain ⟨o, e⟩ := B1.at_b
      exact (ne_of_none e np).symm
    dsimp only
    refine cutK (fun σ' H2 => σ' = [some (.ref b), some (.str nm), some (.int (ten n)), some (.ref p)] ∧ Same H1 H2 ∧ H2 p = some (.lst (odd17 n nm))) ?_ (fun k => ?_)
    · rintro σ' H2 ⟨rfl, s2, hp⟩
      have B2 : Bag H2 b := B1.same s2
      obtain ⟨ob, hb⟩ := B2.at_b
      refine ⟨_, rfl, Nat.zero_le _, fun a1 n1 m1 => ?_⟩
      refine ⟨Nat.zero_le _, fun a2 n2 => ?_⟩
      refine fun a3 n3 => ?_
      refine ⟨by show 1 ≤ sizeLine; decide, fun a4 n4 m4 => ?_⟩
      refine ⟨by show 1 ≤ sizeLine; decide, fun a5 n5 => ?_⟩
      refine ⟨_, rfl, by show 1 ≤ sizeLine; decide, fun a6 n6 => ?_⟩
      refine fun a7 n7 => ?_
      refine ⟨_, rfl, upd_same, [(Sum.inr nm, .int 1)], rfl, by show 1 ≤ 15; decide, ?_⟩
      refine ⟨_, rfl, by show 1 ≤ sizeLine; decide, fun a8 n8 m8 => ?_⟩
      refine ⟨by show 3 ≤ sizeLine; decide, fun a9 n9 => ?_⟩
      refine ⟨by show 13 ≤ sizeLine; decide, fun p3 n10 _ => ?_⟩
      have t1 := same_upd (o := .lst []) n1
      have t2 := same_upd (o := .tup []) n2
      have t3 := same_upd (o := .dK []) n3
      have t4 := same_upd (o := .lst [.int 1]) n4
      have t5 := same_upd (o := .tup [.int 0]) n5
      have t6 := same_upd (o := .tup [.str nm]) n6
      have t7 := same_twice (o := .dK []) (u := .dK [(Sum.inr nm, .int 1)]) n7
      have t8 := same_upd (o := .lst [.str nm]) n8
      have t9 := same_upd (o := .tup [.str "", .str "", .int 0]) n9
      have t10 := same_upd (o := .lst [.str "plain", .str "high", .str "low", .str "Plain", .ref a1, .ref a2, .ref a3, .ref a4, .ref a5, .ref a6, .ref a7, .ref a8, .ref a9]) n10
      have p0 : ∃ u, H2 p = some u := ⟨_, hp⟩
      have p1 := there t1 p0
      have p2 := there t2 p1
      have p3' := there t3 p2
      have p4 := there t4 p3'
      have p5 := there t5 p4
      have p6 := there t6 p5
      have p7 := there t7 p6
      have p8 := there t8 p7
      have c0 : ∃ u, H2 b = some u := ⟨_, hb⟩
      have c1 := there t1 c0
      have c2 := there t2 c1
      have c3 := there t3 c2
      have c4 := there t4 c3
      have c5 := there t5 c4
      have c6 := there t6 c5
      have c7 := there t7 c6
      have c8 := there t8 c7
      have hp9 := t9 _ _ (t8 _ _ (t7 _ _ (t6 _ _ (t5 _ _ (t4 _ _ (t3 _ _ (t2 _ _ (t1 _ _ hp))))))))
      have pp3 := ne_of_none hp9 n10
      refine ⟨p, p3, _, _, rfl, rfl, by rw [upd_ne pp3]; exact hp9, upd_same, by show 30 ≤ sizeLine; decide, ?_⟩
      have K9 : Keep p _ (upd _ p (.lst (odd30 n nm a1 a2 a3 a4 a5 a6 a7 a8 a9))) := (Keep.same (p := p) t10).trans Keep.upd
      have K8 := (Keep.same (p := p) t9).trans K9
      have K7 := (Keep.same (p := p) t8).trans K8
      have K6 := (Keep.same (p := p) t7).trans K7
      have K5 := (Keep.same (p := p) t6).trans K6
      have K4 := (Keep.same (p := p) t5).trans K5
      have K3 := (Keep.same (p := p) t4).trans K4
      have K2 := (Keep.same (p := p) t3).trans K3
      have K1 := (Keep.same (p := p) t2).trans K2
      have K0 := (Keep.same (p := p) t1).trans K1
      obtain ⟨g1, b1⟩ := item n1 p0 c0 K1
      obtain ⟨g2, b2⟩ := item n2 p1 c1 K2
      obtain ⟨g3, b3⟩ := item n3 p2 c2 K3
      obtain ⟨g4, b4⟩ := item n4 p3' c3 K4
      obtain ⟨g5, b5⟩ := item n5 p4 c4 K5
      obtain ⟨g6, b6⟩ := item n6 p5 c5 K6
      have b7 : a7 ≠ b := by
        obtain ⟨u, e⟩ := c6
        exact (ne_of_none e n7).symm
      have g7 := K7 a7 _ (by
        obtain ⟨u, e⟩ := p6
        exact (ne_of_none e n7).symm) upd_same
      obtain ⟨g8, b8⟩ := item n8 p7 c7 K8
      obtain ⟨g9, b9⟩ := item n9 p8 c8 K9
      have sf : Same H1 _ := fun a o e => K0 a o (ne_of_none e np) (s2 a o e)
      have Bf := B1.same sf
      refine ⟨_, rfl, _, rfl, _, rfl, p, _, rfl, .inl (SqL.of upd_same), b, 30, rfl, Bf, by decide, by decide, fun r H' r1 B' k' gs2 => ?_⟩
      have hD := odd_all (n := n) (nm := nm) g1 b1 m1 g2 b2 g3 b3 g4 b4 m4 g5 b5 g6 b6 g7 b7 g8 b8 m8 g9 b9
      have hr30 : r < (odd30 n nm a1 a2 a3 a4 a5 a6 a7 a8 a9).length := by show r < 30; omega
      obtain ⟨d, md, dq⟩ := hD.get (List.getElem?_eq_getElem hr30)
      refine ⟨p, odd30 n nm a1 a2 a3 a4 a5 a6 a7 a8 a9, r, _, rfl, rfl, SqL.of (k' p _ pb upd_same), atI_nat (List.getElem?_eq_getElem hr30), ?_⟩
      refine q _ d H' (dq.mono k') (odd_nice hn' hnm d md) B' ((k1.trans (Keep.same sf)).trans k') fun c hc => gs2 c ((gs1 c hc).same sf)
    · refine ⟨_, rfl, by show 4 ≤ sizeLine; decide, fun p2 np2 _ => ?_⟩
      have pp2 : p ≠ p2 := ne_of_none upd_same np2
      refine ⟨p, p2, _, _, rfl, rfl, by rw [upd_ne pp2]; exact upd_same, upd_same, by show 17 ≤ sizeLine; decide, ?_⟩
      refine k _ _ ⟨rfl, fun a o e => ?_, upd_same⟩
      have z1 : a ≠ p := ne_of_none e np
      have z2 : a ≠ p2 := ne_of_none (by rw [upd_ne z1]; exact e) np2
      rw [upd_ne z1, upd_ne z2, upd_ne z1]
      exact e
end
end Fv


set_option Elab.async false
set_option linter.all false
set_option maxRecDepth 100000
set_option maxHeartbeats 2000000
namespace Fv
open PySem PySem.Spec PyProof.Rows L2
abbrev sMixed : Stmt := top 28
abbrev sNumber : Stmt := top 30
theorem list_cons_perm {α : Type} (i : Nat) (y : α) (xs : List α) : (xs.take i ++ [y] ++ xs.drop i).Perm (y :: xs) := by
  have h : (xs.take i ++ [y] ++ xs.drop i).Perm ([y] ++ xs.take i ++ xs.drop i) := List.Perm.append_right _ List.perm_append_comm
  have e : [y] ++ xs.take i ++ xs.drop i = y :: xs := by
    rw [List.append_assoc, List.take_append_drop]
    rfl
  exact e ▸ h
theorem BagAt.uniq {H : Hp} {b c d : Addr} (h : BagAt H b c) (g : BagAt H b d) : d = c := by
  obtain ⟨cs, p, s, i, B⟩ := h
  exact B.same g
/-- the items of a row, in another order -/
def spMixed (K : PySem.W.Frag) : Sp := fun vs H Q _ => ∃ (b a : Addr) (xs : List V), vs = [.ref b, .ref a] ∧ Bag H b ∧ a ≠ b ∧ H a = some (.lst xs) ∧ xs.length ≤ 60 ∧
  ∀ (p : Addr) (ys : List V) (H' : Hp), H p = none → p ≠ sysModules → H' p = some (.lst ys) → ys.Perm xs → Bag H' b → Keep b H H' → (∀ c, BagAt H b c → BagAt H' b c) → Q (.ref p) H'
section
variable {P : Program} {w : World} {K : PySem.W.Frag} {mg : Str → Option Value} {base : Heap}
theorem scMx : FnScope ["_law_bag_here", "_law_things", "_law_found", "_law_thing"] ["_law_bag_here", "_law_things"] (defScope sMixed) := ⟨rfl, rfl, rfl, by decide +kernel, rfl, by decide +kernel, by decide +kernel⟩
theorem ok_mixed {f fT : Addr} {fd fdT : FuncData} (F : Fun K "_law_mixed" "_law_mixed" sMixed f fd) (GT : FnOk P w K mg base CX0 1 fT fdT ["_law_bag_here", "_law_many"] spTake) (bT : Binds K fdT ["_law_bag_here", "_law_many"] []) (mT : mg "_law_take" = some (.ref fT)) (kT : PySem.W.keepIn K (.ref fT) = true)
    (ml : mg "len" = none) : FnOk P w K mg base CX0 2 f fd ["_law_bag_here", "_law_things"] (spMixed K) := by
  refine F.ok scMx (fun vs H Q E h => ?_) (fun cdv A outer s H vs Q E hr h => ?_)
  · obtain ⟨b, a, xs, rfl, _⟩ := h
    rfl
  · obtain ⟨b, a, xs, rfl, B, ab, ha, hl, q⟩ := h
    have hr1 : Room 1 _ := hr.mono (by decide)
    refine ⟨_, pss_cons (ps_set (i := 2) scMx.nd rfl (.inl rfl) (pe_lstB pa_nil))
      (pss_cons (ps_for PassesOwn.never rfl (pi_list (pv 1)) (pg_name (i := 3) scMx.nd rfl (.inl rfl))
        (pss_one (ps_expr (pe_bm PySem.F.plainAttrs_list PySem.F.slot_list_insert PySem.F.type_list_insert mt_insert (pv 2)
          (pa_cons (pe_call GT hr1 (by rfl) mT kT bT .nil pass0 (pa_cons (pv 0) (pa_cons (pe_op op_add (pe_callB call_len_seq (by rfl) ml PySem.boot_len (pa_cons (pv 2) pa_nil)) pe_int) pa_nil))) (pa_cons (pv 3) pa_nil))))))
      (pss_one (ps_ret (pv 2)))), ?_⟩
    obtain ⟨c0, B0⟩ := B
    refine ⟨Nat.zero_le _, fun p np mp => ?_⟩
    obtain ⟨B1, pb, pc⟩ := BagAt.new (o := .lst []) B0 np
    have ea : (upd H p (.lst [])) a = some (.lst xs) := by rw [upd_ne (ne_of_none ha np)]; exact ha
    have pa : a ≠ p := ne_of_none ha np
    refine ⟨_, rfl, a, rfl, ⟨_, SqL.of ea⟩, ?_⟩
    refine for_list (K := K) (a := a) (xs := xs) (fun i σ H' => ∃ y : Option V, σ = [some (.ref b), some (.ref a), some (.ref p), y] ∧ BagAt H' b c0 ∧ Keep b H H' ∧ H' a = some (.lst xs) ∧ ∃ ys : List V, H' p = some (.lst ys) ∧ ys.Perm (xs.take i))
      ⟨none, rfl, B1, Keep.new np, ea, [], upd_same, .nil⟩ (fun i σ H' _ h => ?_) ?_ ?_
    · obtain ⟨y, _, _, _, e, _⟩ := h
      exact SqL.of e
    · rintro i x σ H2 hx ⟨y, rfl, B2, k2, e2, ys, ep, pe⟩
      have hi : i < xs.length := (List.getElem?_eq_some_iff.mp hx).1
      have hys : ys.length = i := by rw [pe.length_eq, List.length_take]; omega
      refine ⟨_, rfl, .inl ⟨rfl, _, SqL.of ep⟩, _, rfl, _, rfl, p, ys, rfl, .inl (SqL.of ep), _, _, rfl, rfl, b, _, rfl, B2.bag, by omega, by omega, fun r H3 h3 B3 k3 g3 => ?_⟩
      refine ⟨_, rfl, p, ys, r, x, rfl, rfl, k3 _ _ pb ep, small1000 (by omega), by omega, by omega, ?_⟩
      refine ⟨some x, rfl, (g3 _ B2).put pb pc, fun c o n e => ?_, ?_, _, upd_same, ?_⟩
      · rw [upd_ne (ne_of_none e np)]
        exact k3 c o n (k2 c o n e)
      · rw [upd_ne pa]
        exact k3 _ _ ab e2
      · rw [List.take_add_one, hx]
        exact (list_cons_perm _ _ _).trans ((List.Perm.cons x pe).trans (List.perm_append_singleton x (xs.take i)).symm)
    · rintro σ H2 ⟨y, rfl, B2, k2, e2, ys, ep, pe⟩
      rw [List.take_length] at pe
      refine ⟨_, rfl, ?_⟩
      exact q p ys H2 np mp ep pe B2.bag k2 fun c hc => by rw [BagAt.uniq B0 hc]; exact B2
/-! ### a number -/
theorem ten_le : ∀ n : Nat, n < 40 → 2 ≤ ten n + 1 ∧ ten n ≤ 10 ^ 39 := by decide +kernel
def spNumber : Sp := fun vs H Q _ => ∃ b : Addr, vs = [.ref b] ∧ Bag H b ∧ ∀ (z : Int) (H' : Hp), -(10 ^ 39) ≤ z → z ≤ 10 ^ 39 → Bag H' b → Keep b H H' → (∀ c, BagAt H b c → BagAt H' b c) → Q (.int z) H'
theorem scNb : FnScope ["_law_bag_here", "_law_wide"] ["_law_bag_here"] (defScope sNumber) := ⟨rfl, rfl, rfl, by decide +kernel, rfl, by decide +kernel, by decide +kernel⟩
theorem ok_number {f fT : Addr} {fd fdT : FuncData} (F : Fun K "_law_number" "_law_number" sNumber f fd) (GT : FnOk P w K mg base CX0 1 fT fdT ["_law_bag_here", "_law_many"] spTake) (bT : Binds K fdT ["_law_bag_here", "_law_many"] []) (mT : mg "_law_take" = some (.ref fT)) (kT : PySem.W.keepIn K (.ref fT) = true)
    (mi : mg "int" = none) : FnOk P w K mg base CX0 2 f fd ["_law_bag_here"] spNumber := by
  refine F.ok scNb (fun vs H Q E h => ?_) (fun cdv A outer s H vs Q E hr h => ?_)
  · obtain ⟨b, rfl, _⟩ := h
    rfl
  · obtain ⟨b, rfl, B, q⟩ := h
    have hr1 : Room 1 _ := hr.mono (by decide)
    refine ⟨_, pss_cons (ps_if (pt_cmpR op_eq (pe_call GT hr1 (by rfl) mT kT bT .nil pass0 (pa_cons (pv 0) (pa_cons pe_int pa_nil))) pe_int (nomark _))
        (pss_cons (ps_set (i := 1) scNb.nd rfl (.inl rfl) (pe_op op_sub (pe_callTy call_int_str (by rfl) mi (by decide +kernel) (pa_cons (pe_op op_add_str pe_str (pe_op op_zeros pe_str (pe_op op_add pe_int (pe_call GT hr1 (by rfl) mT kT bT .nil pass0 (pa_cons (pv 0) (pa_cons pe_int pa_nil)))))) pa_nil)) (pe_call GT hr1 (by rfl) mT kT bT .nil pass0 (pa_cons (pv 0) (pa_cons pe_int pa_nil)))))
        (pss_one (ps_ret (pe_ifExp (pt_cmpR op_eq (pe_call GT hr1 (by rfl) mT kT bT .nil pass0 (pa_cons (pv 0) (pa_cons pe_int pa_nil))) pe_int (nomark _)) (pv 1) (pe_un un_neg (pv 1)))))) pss_nil)
      (pss_one (ps_ret (pe_op op_sub (pe_call GT hr1 (by rfl) mT kT bT .nil pass0 (pa_cons (pv 0) (pa_cons pe_int pa_nil))) pe_int))), ?_⟩
    refine ⟨_, rfl, b, 12, rfl, B, by decide, by decide, fun r H1 h1 B1 k1 g1 => ?_⟩
    refine ⟨rfl, _, rfl, ite2 (fun e => ?_) (fun e => ?_)⟩
    · refine ⟨_, rfl, b, 38, rfl, B1, by decide, by decide, fun n H2 h2 B2 k2 g2 => ?_⟩
      have hn : 1 + n < 40 := by omega
      obtain ⟨it, il⟩ := int_zeros (1 + n) hn
      obtain ⟨t0, t1⟩ := ten_le (1 + n) hn
      refine ⟨_, _, rfl, rfl, 1 + n, rfl, congrArg V.int (by omega), by omega, _, _, rfl, rfl, Nat.le_trans (by rw [← strLen_append]; exact il) (by decide), _, _, rfl, it, il, ?_⟩
      refine ⟨_, rfl, b, 2, rfl, B2, by decide, by decide, fun d H3 h3 B3 k3 g3 => ⟨_, _, rfl, rfl, ?_⟩⟩
      refine ⟨_, rfl, b, 2, rfl, B3, by decide, by decide, fun o H4 h4 B4 k4 g4 => ?_⟩
      have kk : Keep b H H4 := ((k1.trans k2).trans k3).trans k4
      have gg : ∀ c, BagAt H b c → BagAt H4 b c := fun c hc => g4 c (g3 c (g2 c (g1 c hc)))
      refine ⟨rfl, _, rfl, ite2 (fun e => ?_) (fun e => ?_)⟩
      · exact ⟨_, rfl, q _ H4 (by omega) (by omega) B4 kk gg⟩
      · exact ⟨_, rfl, _, rfl, q _ H4 (by omega) (by omega) B4 kk gg⟩
    · refine ⟨_, rfl, b, 9, rfl, B1, by decide, by decide, fun n H2 h2 B2 k2 g2 => ⟨_, _, rfl, rfl, ?_⟩⟩
      exact q _ H2 (by omega) (by omega) B2 (k1.trans k2) fun c hc => g2 c (g1 c hc)
end
end Fv


set_option Elab.async false
set_option linter.all false
set_option maxRecDepth 100000
set_option maxHeartbeats 1000000
/-! data in which instances of one own class may stand (told as None: what is asked of them is the same) -/
namespace Fv
open PySem PySem.Spec PyProof.Rows L2
mutual
inductive Dx (C : Addr) (H : Hp) (b : Addr) : V → PyData → Prop
  | non : Dx C H b .non .none
  | bl (x : Bool) : Dx C H b (.bl x) (.bool x)
  | int (i : Int) : Dx C H b (.int i) (.int i)
  | str (x : Str) : Dx C H b (.str x) (.str x)
  | obj {a dx : Addr} {fs : List (Str × V)} : H a = some (.ins C dx fs) → a ≠ b → Dx C H b (.ref a) .none
  | lst {a : Addr} {xs : List V} {ds : List PyData} : H a = some (.lst xs) → a ≠ b → DxAll C H b xs ds → Dx C H b (.ref a) (.list ds)
  | tup {a : Addr} {xs : List V} {ds : List PyData} : H a = some (.tup xs) → a ≠ b → DxAll C H b xs ds → Dx C H b (.ref a) (.tuple ds)
  | dct {a : Addr} {kvs : List (Key × V)} {ps : List (PyData × PyData)} : H a = some (.dK kvs) → a ≠ b → Dx C H b (.ref a) (.dict ps)
inductive DxAll (C : Addr) (H : Hp) (b : Addr) : List V → List PyData → Prop
  | nil : DxAll C H b [] []
  | cons {v : V} {vs : List V} {d : PyData} {ds : List PyData} : Dx C H b v d → DxAll C H b vs ds → DxAll C H b (v :: vs) (d :: ds)
end
mutual
theorem Dx.mono {C : Addr} {H H' : Hp} {b : Addr} (k : ∀ a o, a ≠ b → H a = some o → H' a = some o) : ∀ {v : V} {d : PyData}, Dx C H b v d → Dx C H' b v d
  | _, _, .non => .non
  | _, _, .bl x => .bl x
  | _, _, .int i => .int i
  | _, _, .str x => .str x
  | _, _, .obj e n => .obj (k _ _ n e) n
  | _, _, .lst e n h => .lst (k _ _ n e) n (DxAll.mono k h)
  | _, _, .tup e n h => .tup (k _ _ n e) n (DxAll.mono k h)
  | _, _, .dct e n => .dct (k _ _ n e) n
theorem DxAll.mono {C : Addr} {H H' : Hp} {b : Addr} (k : ∀ a o, a ≠ b → H a = some o → H' a = some o) : ∀ {v : List V} {d : List PyData}, DxAll C H b v d → DxAll C H' b v d
  | _, _, .nil => .nil
  | _, _, .cons h t => .cons (Dx.mono k h) (DxAll.mono k t)
end
mutual
theorem Dq.x {C : Addr} {H : Hp} {b : Addr} : ∀ {v : V} {d : PyData}, Dq H b v d → Dx C H b v d
  | _, _, .non => .non
  | _, _, .bl x => .bl x
  | _, _, .int i => .int i
  | _, _, .str x => .str x
  | _, _, .lst e n _ h => .lst e n (DqAll.x h)
  | _, _, .tup e n h => .tup e n (DqAll.x h)
  | _, _, .dct e n _ _ => .dct e n
theorem DqAll.x {C : Addr} {H : Hp} {b : Addr} : ∀ {v : List V} {d : List PyData}, DqAll H b v d → DxAll C H b v d
  | _, _, .nil => .nil
  | _, _, .cons h t => .cons (Dq.x h) (DqAll.x t)
end
theorem DxAll.len {C : Addr} {H : Hp} {b : Addr} : ∀ {v : List V} {d : List PyData}, DxAll C H b v d → v.length = d.length
  | _, _, .nil => rfl
  | _, _, .cons _ t => by rw [List.length_cons, List.length_cons, DxAll.len t]
theorem DxAll.get {C : Addr} {H : Hp} {b : Addr} : ∀ {v : List V} {d : List PyData} {i : Nat} {x : V}, DxAll C H b v d → v[i]? = some x → ∃ e, d[i]? = some e ∧ Dx C H b x e
  | _, _, 0, _, .cons h _, e => ⟨_, rfl, by cases e; exact h⟩
  | _, _, i + 1, _, .cons _ t, e => DxAll.get (i := i) t e
theorem DxAll.at_ {C : Addr} {H : Hp} {b : Addr} : ∀ {v : List V} {d : List PyData} {i : Nat} {e : PyData}, DxAll C H b v d → d[i]? = some e → ∃ x, v[i]? = some x ∧ Dx C H b x e
  | _, _, 0, _, .cons h _, e => ⟨_, rfl, by cases e; exact h⟩
  | _, _, i + 1, _, .cons _ t, e => DxAll.at_ (i := i) t e
/-- what the written part says of that class -/
structure KFn (K : PySem.W.Frag) (C : Addr) : Prop where
  cl : Cls K C
  ha : PySem.W.findIn K (.ref C) "__class__" = some (some (.builtin "object.__class__"))
  hn : PySem.W.specialIn K (.builtin "object.__class__") "__get__" = some (some (.builtin "getset_descriptor.__get__"))
  htk : PySem.W.takesIn K (.builtin "object.__class__") = some true
  hm : PySem.W.mroIn K C (.type "object") = some true
  kI : PySem.W.kitOne K (.ref C) (.type "int") = some false
  kB : PySem.W.kitOne K (.ref C) (.type "bool") = some false
  kS : PySem.W.kitOne K (.ref C) (.type "str") = some false
  kL : PySem.W.kitOne K (.ref C) (.type "list") = some false
  kT : PySem.W.kitOne K (.ref C) (.type "tuple") = some false
def isListD : PyData → Bool
  | .list _ => true
  | _ => false
def isTupD : PyData → Bool
  | .tuple _ => true
  | _ => false
def rowD (d : PyData) : Bool := isListD d || isTupD d
theorem kit_list {K : PySem.W.Frag} (d : PyData) : PySem.W.kitOne K (.type (tyN d)) (.type "list") = some (isListD d) := by
  cases d
  · exact kit_ty (a := "NoneType") (b := "list") (r := false) (by decide +kernel)
  · exact kit_ty (a := "bool") (b := "list") (r := false) (by decide +kernel)
  · exact kit_ty (a := "int") (b := "list") (r := false) (by decide +kernel)
  · exact kit_ty (a := "str") (b := "list") (r := false) (by decide +kernel)
  · exact kit_ty (a := "list") (b := "list") (r := true) (by decide +kernel)
  · exact kit_ty (a := "tuple") (b := "list") (r := false) (by decide +kernel)
  · exact kit_ty (a := "dict") (b := "list") (r := false) (by decide +kernel)
theorem kit_tup {K : PySem.W.Frag} (d : PyData) : PySem.W.kitOne K (.type (tyN d)) (.type "tuple") = some (isTupD d) := by
  cases d
  · exact kit_ty (a := "NoneType") (b := "tuple") (r := false) (by decide +kernel)
  · exact kit_ty (a := "bool") (b := "tuple") (r := false) (by decide +kernel)
  · exact kit_ty (a := "int") (b := "tuple") (r := false) (by decide +kernel)
  · exact kit_ty (a := "str") (b := "tuple") (r := false) (by decide +kernel)
  · exact kit_ty (a := "list") (b := "tuple") (r := false) (by decide +kernel)
  · exact kit_ty (a := "tuple") (b := "tuple") (r := true) (by decide +kernel)
  · exact kit_ty (a := "dict") (b := "tuple") (r := false) (by decide +kernel)
structure Isa (K : PySem.W.Frag) (H : Hp) (v : V) (d : PyData) (t : Value) : Prop where
  ty : TyX K H v t
  i : PySem.W.kitOne K t (.type "int") = some (isIntD d)
  b : PySem.W.kitOne K t (.type "bool") = some (isBoolD d)
  s : PySem.W.kitOne K t (.type "str") = some (isStrD d)
  l : PySem.W.kitOne K t (.type "list") = some (isListD d)
  t : PySem.W.kitOne K t (.type "tuple") = some (isTupD d)
theorem Dx.isa {K : PySem.W.Frag} {C : Addr} {H : Hp} {b : Addr} {v : V} {d : PyData} (T : KFn K C) (h : Dx C H b v d) : ∃ t, Isa K H v d t := by
  have base : ∀ {v : V}, TyX K H v (.type (tyN d)) → ∃ t, Isa K H v d t := fun y => ⟨_, y, kit_int d, kit_bool d, kit_str d, kit_list d, kit_tup d⟩
  cases h with
  | non => exact base (.base .non)
  | bl x => exact base (.base (.bl x))
  | int i => exact base (.base (.int i))
  | str x => exact base (.base (.str x))
  | obj e n => exact ⟨_, .base (.ins e T.cl T.ha T.hn T.htk T.hm), T.kI, T.kB, T.kS, T.kL, T.kT⟩
  | lst e _ _ => exact base (.base (.lst e))
  | tup e _ _ => exact base (.base (.tup e))
  | dct e _ => exact base (.base (.dK e))
theorem Dx.str_of {C : Addr} {H : Hp} {b : Addr} {v : V} {d : PyData} (h : Dx C H b v d) (e : isStrD d = true) : ∃ z, v = .str z ∧ d = .str z := by
  cases h <;> first | exact ⟨_, rfl, rfl⟩ | cases e
theorem Dx.tup_of {C : Addr} {H : Hp} {b : Addr} {v : V} {d : PyData} (h : Dx C H b v d) (e : isTupD d = true) : ∃ a xs ds, v = .ref a ∧ d = .tuple ds ∧ H a = some (.tup xs) ∧ DxAll C H b xs ds := by
  cases h with
  | tup e1 n h => exact ⟨_, _, _, rfl, rfl, e1, h⟩
  | _ => cases e
/-- a list or a tuple: its items -/
theorem Dx.row_of {K : PySem.W.Frag} {C : Addr} {H : Hp} {b : Addr} {v : V} {d : PyData} (h : Dx C H b v d) (e : rowD d = true) : ∃ a xs ds, v = .ref a ∧ (d = .tuple ds ∨ d = .list ds) ∧ (SqL K H a xs ∨ SqT K H a xs) ∧ DxAll C H b xs ds := by
  cases h with
  | tup e1 n h => exact ⟨_, _, _, rfl, .inl rfl, .inr (SqT.of e1), h⟩
  | lst e1 n h => exact ⟨_, _, _, rfl, .inr rfl, .inl (SqL.of e1), h⟩
  | _ => cases e
/-! ### how large -/
mutual
def okD : PyData → Prop
  | .str z => z.length ≤ 1000 ∧ ∀ c ∈ z.cps.toList, c < 128
  | .list ds => ds.length ≤ 60 ∧ okAll ds
  | .tuple ds => ds.length ≤ 60 ∧ okAll ds
  | _ => True
def okAll : List PyData → Prop
  | [] => True
  | d :: ds => okD d ∧ okAll ds
end
theorem okAll.mem : ∀ {ds : List PyData}, okAll ds → ∀ d ∈ ds, okD d
  | d :: ds, h, x, hx => by
    rcases List.mem_cons.mp hx with rfl | hx
    · exact h.1
    · exact okAll.mem h.2 x hx
/-! ### integers, names, sources -/
abbrev sIsInt : Stmt := top 10
abbrev sIsName : Stmt := top 11
abbrev sIsSource : Stmt := top 12
abbrev sIsRow : Stmt := top 15
def abc : Str := "abcdefghijklmnopqrstuvwxyz"
def nameS (z : Str) : Bool := decide (1 ≤ z.length) && decide (z.length ≤ 8) && z.cps.toList.all fun c => decide (c ∈ abc.cps.toList)
def nameD : PyData → Bool
  | .str z => nameS z
  | _ => false
def emptyD : PyData → Bool
  | .str z => decide (z.length = 0)
  | _ => false
def sourceD (d : PyData) : Bool := nameD d || emptyD d
def intD (d : PyData) : Bool := isIntD d && !isBoolD d
theorem name_not {d : PyData} (h : isStrD d = false) : nameD d = false := by cases d <;> first | rfl | cases h
theorem empty_not {d : PyData} (h : isStrD d = false) : emptyD d = false := by cases d <;> first | rfl | cases h
theorem small_line {n : Nat} (h : n ≤ 1000) : n ≤ sizeLine := Nat.le_of_lt (small1000 h)
def spX (C : Addr) (g : PyData → Bool) : Sp := fun vs H Q _ => ∃ (b : Addr) (v : V) (d : PyData), vs = [v] ∧ Dx C H b v d ∧ okD d ∧ (∃ o, H b = some o) ∧ ∀ H', Same H H' → Q (.bl (g d)) H'
section
variable {P : Program} {w : World} {K : PySem.W.Frag} {mg : Str → Option Value} {base : Heap} {C : Addr}
theorem sc1 : FnScope ["thing"] ["thing"] (defScope sIsInt) := ⟨rfl, rfl, rfl, by decide +kernel, rfl, by decide +kernel, by decide +kernel⟩
theorem ok_isint {f : Addr} {fd : FuncData} (T : KFn K C) (F : Fun K "is_integer" "is_integer" sIsInt f fd) (mq : mg "isinstance" = none) (mi : mg "int" = none) (mb : mg "bool" = none) : FnOk P w K mg base CX0 1 f fd ["thing"] (spX C intD) := by
  refine F.ok sc1 (fun vs H Q E h => ?_) (fun cdv A outer s H vs Q E hr h => ?_)
  · obtain ⟨b, v, d, rfl, _⟩ := h
    rfl
  · obtain ⟨b, v, d, rfl, hd, _, _, q⟩ := h
    obtain ⟨t, I⟩ := hd.isa T
    refine ⟨_, pss_one (ps_ret (pe_and (pe_callB call_isi (by rfl) mq (by decide +kernel) (pa_cons (pv 0) (pa_cons (pe_bltn (v := .ty "int") (by rfl) mi boot_int rfl) pa_nil)))
      (pe_one (pe_not (pe_callB call_isi (by rfl) mq (by decide +kernel) (pa_cons (pv 0) (pa_cons (pe_bltn (v := .ty "bool") (by rfl) mb boot_bool rfl) pa_nil))))))), ?_⟩
    refine ⟨_, rfl, _, _, _, _, _, rfl, .ty "int", I.ty, I.i, _, rfl, ?_⟩
    have e : intD d = (isIntD d && !isBoolD d) := rfl
    rw [e] at q
    cases h1 : isIntD d with
    | false =>
      rw [h1] at q
      exact q H fun _ _ e => e
    | true =>
      rw [h1] at q
      exact ⟨_, rfl, _, _, _, _, _, rfl, .ty "bool", I.ty, I.b, _, rfl, q H fun _ _ e => e⟩
theorem sc2 : FnScope ["thing", "letter"] ["thing"] (defScope sIsName) := ⟨rfl, rfl, rfl, by decide +kernel, rfl, by decide +kernel, by decide +kernel⟩
theorem ok_isname {f : Addr} {fd : FuncData} {t u : Tok} (T : KFn K C) (F : Fun K "is_name" "is_name" sIsName f fd) (mq : mg "isinstance" = none) (ms : mg "str" = none) (ml : mg "len" = none) (ma : mg "all" = none)
    (mL : mg "LETTERS" = some (.str abc t)) (mN : mg "LONGEST_NAME" = some (.int 8 u)) : FnOk P w K mg base CX0 1 f fd ["thing"] (spX C nameD) := by
  refine F.ok sc2 (fun vs H Q E h => ?_) (fun cdv A outer s H vs Q E hr h => ?_)
  · obtain ⟨b, v, d, rfl, _⟩ := h
    rfl
  · obtain ⟨b, v, d, rfl, hd, hs, hb, q⟩ := h
    obtain ⟨t', I⟩ := hd.isa T
    refine ⟨_, pss_cons (ps_if (PW.pt (pw_or (pt_not (pt_val (pe_callB call_isi (by rfl) mq (by decide +kernel) (pa_cons (pv 0) (pa_cons (pe_bltn (v := .ty "str") (by rfl) ms boot_str rfl) pa_nil)))))
        (pw_or1 (pt_not (pt_chain op_le op_le pe_int (pe_callB call_len_str (by rfl) ml PySem.boot_len (pa_cons (pv 0) pa_nil)) (pe_glob (v := .int 8) (by rfl) mN ⟨_, rfl⟩))))))
        (pss_one (ps_ret pe_bl)) pss_nil)
      (pss_one (ps_ret (pe_callB (cr_all rfl) (by rfl) ma (by decide +kernel) (pa_cons
        (pe_lc (own := [("letter", 1)]) (g := gName 1) (tt := tYes) rfl sc2.nd (pi_str (pv 0)) (blkOk_by (N := ["thing", "letter"]) (sc := defScope sIsName) (by decide +kernel))
        (fun _ _ _ _ _ => pg_name (i := 1) sc2.nd rfl (Or.inl rfl)) (fun _ _ _ _ _ => pts_nil) (fun _ _ _ _ _ => pe_cmpR op_in_sign (pv 1) (pe_glob (v := .str abc) (by rfl) mL ⟨_, rfl⟩) (by rfl))) pa_nil)))), ?_⟩
    refine ⟨_, rfl, _, _, _, _, _, rfl, .ty "str", I.ty, I.s, _, rfl, ?_⟩
    cases h1 : isStrD d with
    | false =>
      rw [name_not h1] at q
      exact q H fun _ _ e => e
    | true =>
      obtain ⟨z, rfl, rfl⟩ := hd.str_of h1
      have hz : z.length ≤ sizeLine := small_line hs.1
      have e : nameD (.str z) = (decide (1 ≤ z.length) && decide (z.length ≤ 8) && z.cps.toList.all fun c => decide (c ∈ abc.cps.toList)) := rfl
      rw [e] at q
      refine ⟨_, rfl, z, rfl, hz, _, _, rfl, rfl, _, rfl, ?_⟩
      by_cases a1 : (1 : Int) ≤ (z.length : Int)
      · have b1 : decide (1 ≤ z.length) = true := decide_eq_true (by omega)
        rw [b1] at q
        rw [decide_eq_true a1]
        refine ⟨_, _, rfl, rfl, _, rfl, ?_⟩
        by_cases a2 : (z.length : Int) ≤ 8
        · have b2 : decide (z.length ≤ 8) = true := decide_eq_true (by omega)
          rw [b2] at q
          rw [decide_eq_true a2]
          refine iteF ?_
          refine ⟨_, rfl, z, rfl, fun D hD => ?_⟩
          refine lc_it walk_str (fun i H1 => Same H H1 ∧ H1 D = some (.lst ((z.cps.toList.take i).map fun c => V.bl (decide (c ∈ abc.cps.toList))))) ⟨same_upd hD, upd_same⟩ (fun _ _ _ _ => True.intro) ?_ ?_
          · rintro i x H1 H2 hi ⟨s1, e1⟩ ⟨rfl, c, hc, rfl⟩
            refine ⟨rfl, _, rfl, c, abc, rfl, rfl, _, e1, ?_, fun a o e => ?_, ?_⟩
            · rw [List.length_map, List.length_take]
              have : z.cps.toList.length = z.length := by simp [Str.length]
              exact small1000 (by have : z.length ≤ 1000 := hs.1; omega)
            · have : a ≠ D := ne_of_none e hD
              rw [upd_ne this]
              exact s1 a o e
            · have hc' : z.cps.toList[i]? = some c := by simpa using hc
              rw [upd_same, List.take_add_one, hc', List.map_append]
              rfl
          · rintro H1 ⟨s1, e1⟩
            have ez : z.cps.size = z.cps.toList.length := by simp
            rw [ez, List.take_length] at e1
            refine ⟨D, z.cps.toList.map fun c => decide (c ∈ abc.cps.toList), rfl, SqL.of (by rw [List.map_map]; exact e1), ?_⟩
            rw [List.all_map]
            exact q H1 s1
        · have b2 : decide (z.length ≤ 8) = false := decide_eq_false (by omega)
          rw [b2] at q
          rw [decide_eq_false a2]
          exact q H fun _ _ e => e
      · have b1 : decide (1 ≤ z.length) = false := decide_eq_false (by omega)
        rw [b1] at q
        rw [decide_eq_false a1]
        exact ⟨_, rfl, q H fun _ _ e => e⟩
theorem sc3 : FnScope ["thing"] ["thing"] (defScope sIsSource) := ⟨rfl, rfl, rfl, by decide +kernel, rfl, by decide +kernel, by decide +kernel⟩
theorem ok_issource {f f1 : Addr} {fd fd1 : FuncData} (T : KFn K C) (F : Fun K "is_source" "is_source" sIsSource f fd) (G : FnOk P w K mg base CX0 1 f1 fd1 ["thing"] (spX C nameD)) (b1 : Binds K fd1 ["thing"] []) (m1 : mg "is_name" = some (.ref f1)) (k1 : PySem.W.keepIn K (.ref f1) = true)
    (mq : mg "isinstance" = none) (ms : mg "str" = none) (ml : mg "len" = none) : FnOk P w K mg base CX0 2 f fd ["thing"] (spX C sourceD) := by
  refine F.ok sc3 (fun vs H Q E h => ?_) (fun cdv A outer s H vs Q E hr h => ?_)
  · obtain ⟨b, v, d, rfl, _⟩ := h
    rfl
  · obtain ⟨b, v, d, rfl, hd, hs, hb, q⟩ := h
    refine ⟨_, pss_one (ps_ret (pe_or (pe_call G hr (by rfl) m1 k1 b1 .nil pass0 (pa_cons (pv 0) pa_nil))
      (pe_one (pe_and (pe_callB call_isi (by rfl) mq (by decide +kernel) (pa_cons (pv 0) (pa_cons (pe_bltn (v := .ty "str") (by rfl) ms boot_str rfl) pa_nil)))
        (pe_one (pe_cmpR op_eq (pe_callB call_len_str (by rfl) ml PySem.boot_len (pa_cons (pv 0) pa_nil)) pe_int (nomark _))))))), ?_⟩
    refine ⟨_, rfl, b, v, d, rfl, hd, hs, hb, fun H1 s1 => ⟨_, rfl, ?_⟩⟩
    have e : sourceD d = (nameD d || emptyD d) := rfl
    rw [e] at q
    cases h0 : nameD d with
    | true =>
      rw [h0] at q
      exact q H1 s1
    | false =>
      rw [h0, Bool.false_or] at q
      have hd1 : Dx C H1 b v d := hd.mono fun a o _ e => s1 a o e
      obtain ⟨t', I⟩ := hd1.isa T
      refine iteF ⟨_, rfl, _, _, _, _, _, rfl, .ty "str", I.ty, I.s, _, rfl, ?_⟩
      cases h1 : isStrD d with
      | false =>
        rw [empty_not h1] at q
        exact q H1 s1
      | true =>
        obtain ⟨z, rfl, rfl⟩ := hd.str_of h1
        refine iteT ⟨_, rfl, z, rfl, small_line hs.1, rfl, ?_⟩
        have e2 : decide (V.int (z.length : Int) = V.int 0) = decide (z.length = 0) := by
          rw [Bool.eq_iff_iff]
          simp
        show Q (V.bl (decide (V.int (z.length : Int) = V.int 0))) H1
        rw [e2]
        exact q H1 s1
end
end Fv


set_option Elab.async false
set_option linter.all false
set_option maxRecDepth 100000
set_option maxHeartbeats 1000000
/-! rows: a list or a tuple, walked; parts of statements known -/
namespace L2
open PySem PySem.Spec PyProof.Rows
theorem SqL.same {K : PySem.W.Frag} {H H' : Hp} {a : Addr} {xs : List V} (s : ∀ c o, H c = some o → H' c = some o) (h : SqL K H a xs) : SqL K H' a xs := by
  rcases h with (h | ⟨o, h⟩) | h
  · exact .inl (.inl (s _ _ h))
  · exact .inl (.inr ⟨o, s _ _ h⟩)
  · exact .inr h
theorem SqT.same {K : PySem.W.Frag} {H H' : Hp} {a : Addr} {xs : List V} (s : ∀ c o, H c = some o → H' c = some o) (h : SqT K H a xs) : SqT K H' a xs := by
  rcases h with (h | ⟨o, h⟩) | h
  · exact .inl (.inl (s _ _ h))
  · exact .inl (.inr ⟨o, s _ _ h⟩)
  · exact .inr h
section
variable {X : Cx} {tg : Expr}
def iRow (K : PySem.W.Frag) (tl : TE) : TI := fun σ H R => tl σ H fun x H1 => ∃ a xs, x = .ref a ∧ (SqL K H1 a xs ∨ SqT K H1 a xs) ∧ ∀ J G, Walk J xs.length G (YAt xs) → (∀ H', (∀ c o, H1 c = some o → H' c = some o) → G H') → R J H1
/-- a name that holds a list or a tuple -/
theorem pi_row {l : Expr} {i : Nat} (hl : PE X l (tVar i)) : PI X tg l (iRow X.K (tVar i)) := by
  constructor
  intro pins s σ H R I h
  obtain ⟨v, e, a, xs, ev, hq, q⟩ := h
  rcases hq with hq | hq
  · exact (pi_list hl).run pins s σ H R I ⟨v, e, a, ev, ⟨xs, hq⟩, q _ _ walk_list fun H' s => hq.same s⟩
  · exact (pi_tup hl).run pins s σ H R I ⟨v, e, a, ev, ⟨xs, hq⟩, q _ _ walk_tup fun H' s => hq.same s⟩
end
end L2
namespace Fv
open PySem PySem.Spec PyProof.Rows L2
def pairD : PyData → Bool
  | .tuple [x, y] => sourceD x && intD y
  | _ => false
def tripD : PyData → Bool
  | .tuple [x, y, z] => nameD x && sourceD y && intD z
  | _ => false
def itemsD : PyData → List PyData
  | .tuple ds => ds
  | .list ds => ds
  | _ => []
def partsD (d : PyData) : Bool := rowD d && (itemsD d).all pairD
theorem pair_not {d : PyData} (h : isTupD d = false) : pairD d = false := by cases d <;> first | rfl | cases h
theorem trip_not {d : PyData} (h : isTupD d = false) : tripD d = false := by cases d <;> first | rfl | cases h
theorem pair_len {ds : List PyData} (h : ds.length ≠ 2) : pairD (.tuple ds) = false := by
  match ds, h with
  | [], _ => rfl
  | [_], _ => rfl
  | [_, _], h => exact absurd rfl h
  | _ :: _ :: _ :: _, _ => rfl
theorem trip_len {ds : List PyData} (h : ds.length ≠ 3) : tripD (.tuple ds) = false := by
  match ds, h with
  | [], _ => rfl
  | [_], _ => rfl
  | [_, _], _ => rfl
  | [_, _, _], h => exact absurd rfl h
  | _ :: _ :: _ :: _ :: _, _ => rfl
theorem len_of {n m : Nat} (e : ¬ ((!decide (V.int (n : Int) = V.int (m : Int))) = true)) : n = m := by
  rw [Bool.not_eq_true, Bool.not_eq_false'] at e
  have := V.int.inj (of_decide_eq_true e)
  omega
theorem DxAll.two {C : Addr} {H : Hp} {b : Addr} {x y : V} {ds : List PyData} (h : DxAll C H b [x, y] ds) : ∃ dx dy, ds = [dx, dy] ∧ Dx C H b x dx ∧ Dx C H b y dy := by
  cases h with
  | cons h1 h => cases h with
    | cons h2 h =>
      cases h
      exact ⟨_, _, rfl, h1, h2⟩
theorem DxAll.three {C : Addr} {H : Hp} {b : Addr} {x y z : V} {ds : List PyData} (h : DxAll C H b [x, y, z] ds) : ∃ dx dy dz, ds = [dx, dy, dz] ∧ Dx C H b x dx ∧ Dx C H b y dy ∧ Dx C H b z dz := by
  cases h with
  | cons h1 h => cases h with
    | cons h2 h => cases h with
      | cons h3 h =>
        cases h
        exact ⟨_, _, _, rfl, h1, h2, h3⟩
theorem two_of {xs : List V} (h : xs.length = 2) : ∃ x y, xs = [x, y] := by
  match xs, h with
  | [x, y], _ => exact ⟨x, y, rfl⟩
theorem three_of {xs : List V} (h : xs.length = 3) : ∃ x y z, xs = [x, y, z] := by
  match xs, h with
  | [x, y, z], _ => exact ⟨x, y, z, rfl⟩
section
variable {P : Program} {w : World} {K : PySem.W.Frag} {mg : Str → Option Value} {base : Heap} {C : Addr}
theorem sc5 : FnScope ["thing"] ["thing"] (defScope sIsRow) := ⟨rfl, rfl, rfl, by decide +kernel, rfl, by decide +kernel, by decide +kernel⟩
theorem ok_isrow {f : Addr} {fd : FuncData} (T : KFn K C) (F : Fun K "is_row" "is_row" sIsRow f fd) (mq : mg "isinstance" = none) (ml : mg "list" = none) (mt : mg "tuple" = none) : FnOk P w K mg base CX0 1 f fd ["thing"] (spX C rowD) := by
  refine F.ok sc5 (fun vs H Q E h => ?_) (fun cdv A outer s H vs Q E hr h => ?_)
  · obtain ⟨b, v, d, rfl, _⟩ := h
    rfl
  · obtain ⟨b, v, d, rfl, hd, _, _, q⟩ := h
    refine ⟨_, pss_one (ps_ret (pe_callB call_isiT (by rfl) mq (by decide +kernel) (pa_cons (pv 0) (pa_cons (pe_tup (pa_cons (pe_bltn (v := .ty "list") (by rfl) ml boot_list rfl) (pa_cons (pe_bltn (v := .ty "tuple") (by rfl) mt boot_tuple rfl) pa_nil))) pa_nil)))), ?_⟩
    refine ⟨_, rfl, by show 2 ≤ sizeLine; decide, fun p np => ?_⟩
    obtain ⟨t, I⟩ := (hd.mono fun a o _ e => same_upd (o := .tup [.ty "list", .ty "tuple"]) np a o e).isa T
    exact ⟨_, _, _, _, _, _, rfl, upd_same, .cons (.ty "list") (.cons (.ty "tuple") .nil), I.ty, kitAny_cons (r := rowD d) I.l (fun e => by
      refine kitAny_cons (r := rowD d) I.t (fun e2 => ?_) (fun e2 => ?_)
      · unfold rowD
        rw [e, e2]
        rfl
      · unfold rowD
        rw [e2, Bool.or_true]) (fun e => by
      unfold rowD
      rw [e]
      rfl), q _ (same_upd np)⟩
end
end Fv


set_option Elab.async false
set_option linter.all false
set_option maxRecDepth 100000
set_option maxHeartbeats 1000000
namespace Fv
open PySem PySem.Spec PyProof.Rows L2
theorem rows_items {d : PyData} {ds : List PyData} (h : d = .tuple ds ∨ d = .list ds) : itemsD d = ds := by rcases h with rfl | rfl <;> rfl
theorem rows_ok {d : PyData} {ds : List PyData} (h : d = .tuple ds ∨ d = .list ds) (k : okD d) : ds.length ≤ 60 ∧ okAll ds := by rcases h with rfl | rfl <;> exact k
theorem small60 {n : Nat} (h : n ≤ 60) : n < sizeLine := small1000 (by omega)
theorem take_map_snoc {α β : Type} {f : α → β} {xs : List α} {i : Nat} {x : α} (h : xs[i]? = some x) : (xs.take (i + 1)).map f = (xs.take i).map f ++ [f x] := by
  rw [List.take_add_one, h, List.map_append]
  rfl
section
variable {P : Program} {w : World} {K : PySem.W.Frag} {mg : Str → Option Value} {base : Heap} {C : Addr}
end
end Fv


set_option Elab.async false
set_option linter.all false
set_option maxRecDepth 100000
set_option maxHeartbeats 2000000
/-! sets of texts: the comprehension, len, sorted -/
namespace Fv
open PySem PySem.Spec PyProof.Rows L2
def txtOf (e : Int × Value) : Str := match e.2 with | .str k _ => k | _ => ""
def TxE (P : Program) (w : World) (e : Int × Value) : Prop := ∃ k tk, e.2 = Value.str k tk ∧ e.1 = (strKind P w).hash k
/-- the set of the texts L at a; its table can be walked -/
structure TxS (P : Program) (w : World) (h : Heap) (a : Addr) (L : List Str) (o : Obj) (es : Array (Int × Value)) (ep : Nat) (t : SetTable) : Prop where
  get : h.get? a = some o
  ex : o.ExactSet
  data : o.data = .set es ep t
  good : ∀ e ∈ es.toList, TxE P w e
  perm : (es.toList.map txtOf).Perm L
  nodup : L.Nodup
  few : es.size < scanBound
  fit : t.fits es.size = true
  ris : Ris t.place.toList
  led : w.params.followText "set-order" = true ∨ t.led = true
def TxtS (P : Program) (w : World) (h : Heap) (a : Addr) (L : List Str) : Prop := ∃ o es ep t, TxS P w h a L o es ep t
def insL (L : List Str) (k : Str) : List Str := if k ∈ L then L else L ++ [k]
section
variable {P : Program} {w : World}
theorem TxE.is {e : Int × Value} (g : TxE P w e) (k : Str) : (strKind P w).is k e.2 = true ↔ txtOf e = k := by
  obtain ⟨z, tk, h1, _⟩ := g
  have e2 : txtOf e = z := by
    unfold txtOf
    rw [h1]
  rw [e2, h1]
  show Value.isStrOf k (.str z tk) = true ↔ z = k
  constructor
  · intro h
    simpa [Value.isStrOf] using h
  · rintro rfl
    simp [Value.isStrOf]
theorem tx_elems {l : List (Int × Value)} (g : ∀ e ∈ l, TxE P w e) : ElemsOf (strKind P w) l := fun e he => by
  obtain ⟨k, tk, h1, h2⟩ := g e he
  exact ⟨⟨k, by rw [h1]; exact strKind_is _ _ _ _, h2⟩, by rw [h1]; rfl⟩
theorem tx_mem {l : List (Int × Value)} {L : List Str} (g : ∀ e ∈ l, TxE P w e) (p : (l.map txtOf).Perm L) (k : Str) : k ∈ L ↔ ∃ e ∈ l, (strKind P w).is k e.2 = true := by
  rw [← p.mem_iff, List.mem_map]
  exact ⟨fun ⟨e, he, q⟩ => ⟨e, he, ((g e he).is k).2 q⟩, fun ⟨e, he, q⟩ => ⟨e, he, ((g e he).is k).1 q⟩⟩
theorem TxtS.at {h h' : Heap} {a : Addr} {L : List Str} (R : TxtS P w h a L) (k : ∀ o, h.get? a = some o → h'.get? a = some o) : TxtS P w h' a L := by
  obtain ⟨o, es, ep, t, T⟩ := R
  exact ⟨o, es, ep, t, { T with get := k _ T.get }⟩
theorem TxS.size {h : Heap} {a : Addr} {L : List Str} {o : Obj} {es : Array (Int × Value)} {ep : Nat} {t : SetTable} (T : TxS P w h a L o es ep t) : es.size = L.length := by
  have := T.perm.length_eq
  rw [List.length_map, Array.length_toList] at this
  exact this
theorem TxS.stored {h : Heap} {a : Addr} {o : Obj} {es es' : Array (Int × Value)} {ep : Nat} {t t' : SetTable} {L' : List Str} (ho : h.get? a = some o) (hx : o.ExactSet) (hd : o.data = .set es ep t)
    (g : ∀ e ∈ es'.toList, TxE P w e) (p : (es'.toList.map txtOf).Perm L') (nd : L'.Nodup) (hb : es'.size < scanBound) (hf : t'.fits es'.size = true) (hr : Ris t'.place.toList) (hl : w.params.followText "set-order" = true ∨ t'.led = true) :
    TxS P w (h.update a (Obj.putSet es' t')) a L' { o with data := .set es' (ep + 1) t' } es' (ep + 1) t' :=
  ⟨(SetOf_store (knd := strKind P w) (S' := fun k => decide (k ∈ L')) ho hx hd (tx_elems g) (fun k => by rw [decide_eq_true_eq]; exact tx_mem g p k) hb hf).1, hx, rfl, g, p, nd, hb, hf, hr, hl⟩
end
section
variable {P : Program} {w : World} {A : Around} {E : Value → Shared → Prop} {s : Shared} {a : Addr} {L : List Str}
theorem tx_tail {g : Bool → Sem Unit} (hg : ∀ (b : Bool) (s₁ : Shared) (Q' : Unit → Shared → Prop), Q' () s₁ → wpAny (model P w) A (g b) Q' E s₁)
    {o : Obj} {es : Array (Int × Value)} {ep : Nat} {t : SetTable} (ho : s.heap.get? a = some o) (hx : o.ExactSet) (hd : o.data = .set es ep t)
    {fs : Array (Int × Value)} {t2 : SetTable} {L' : List Str} (gd : ∀ e ∈ fs.toList, TxE P w e) (pm : (fs.toList.map txtOf).Perm L') (nd : L'.Nodup) (hb : fs.size < scanBound) (hf : t2.fits fs.size = true) (hr : Ris t2.place.toList)
    (hl : w.params.followText "set-order" = true ∨ t2.led = true) {wasDummy : Bool} {R : Option Bool → Shared → Prop} (hR : ∀ h', Heap.SameBut a s.heap h' → TxtS P w h' a L' → R (some true) { s with heap := h' }) :
    wpAny (model P w) A (do
        storeSet a fs t2
        if (!wasDummy && t2.tooFull) = true then do
            g (relayAll t2 fs (SetTable.grown fs.size)).2.2
            storeSet a (relayAll t2 fs (SetTable.grown fs.size)).1 (relayAll t2 fs (SetTable.grown fs.size)).2.1
            pure (some true)
          else pure (some true)) R E s := by
  have T1 := TxS.stored (P := P) ho hx hd gd pm nd hb hf hr hl
  have b1 := Heap.SameBut.update s.heap a (Obj.putSet fs t2)
  refine wpAny_bind (wpAny_storeSet_of ho hd ?_ (fits_of_scanBound hb))
  split
  · have q1 := relayAll_perm t2 fs (SetTable.grown fs.size)
    have q2 := relayAll_fits t2 fs (SetTable.grown fs.size)
    have q3 := relayAll_ris t2 fs (SetTable.grown fs.size)
    have q4 := relayAll_led t2 fs (SetTable.grown fs.size)
    generalize relayAll t2 fs (SetTable.grown fs.size) = W at q1 q2 q3 q4 ⊢
    obtain ⟨gs, t3, gave⟩ := W
    have hz : gs.size = fs.size := by
      have := q1.length_eq
      rwa [Array.length_toList, Array.length_toList] at this
    have hb2 : gs.size < scanBound := by rw [hz]; exact hb
    refine wpAny_bind (hg gave _ _ (wpAny_bind (wpAny_storeSet_of T1.get T1.data ?_ (fits_of_scanBound hb2))))
    exact wpAny_pure (hR _ (b1.trans (Heap.SameBut.update _ a _)) ⟨_, _, _, _, TxS.stored T1.get T1.ex T1.data (fun e he => gd e (q1.mem_iff.mp he)) ((q1.map txtOf).trans pm) nd hb2 q2 q3 (hl.imp id fun z => Eq.trans q4 z)⟩)
  · exact wpAny_pure (hR _ b1 ⟨_, _, _, _, T1⟩)
theorem tx_hashed {k : Str} {tk : Tok} {Q : Bool → Shared → Prop} (R : TxtS P w s.heap a L) (room : L.length + 1 < scanBound) (hQ : ∀ h', Heap.SameBut a s.heap h' → TxtS P w h' a (insL L k) → Q (!decide (k ∈ L)) { s with heap := h' }) :
    wpAny (model P w) A (setAddHashed a (.str k tk) ((strKind P w).hash k)) Q E s := by
  obtain ⟨o, es, ep, t, T⟩ := R
  have el := tx_elems T.good
  have key : (strKind P w).is k (.str k tk) = true := strKind_is _ _ _ _
  have sc : (Value.str k tk).scannable = true := rfl
  have mm := tx_mem T.good T.perm k
  unfold setAddHashed setAddHashedIn
  refine wpAny_holding (wpAny_bind (wpAny_setState_of T.get T.data T.fit ?_))
  dsimp only
  rw [byScan_of sc T.few el]
  simp only [↓reduceIte]
  unfold setAddByScan
  refine wpAny_bind (wpAny_bind (wpAny_rule (wpAny_bind (wpAny_setScan_of key T.get T.data T.fit el ?_))))
  cases fi : List.findIdx? (fun e => (strKind P w).is k e.2) es.toList with
  | some j =>
    obtain ⟨hj, pj, _⟩ := List.findIdx?_eq_some_iff_getElem.mp fi
    have hk : k ∈ L := mm.2 ⟨es.toList[j], List.getElem_mem hj, pj⟩
    have q := hQ s.heap (Heap.SameBut.refl a s.heap) ⟨o, es, ep, t, by unfold insL; rw [if_pos hk]; exact T⟩
    rw [decide_eq_true hk] at q
    exact wpAny_pure (wpAny_pure q)
  | none =>
    have hk : k ∉ L := fun z => by
      obtain ⟨e, he, q⟩ := mm.1 z
      have c := List.findIdx?_eq_none_iff.mp fi e he
      rw [q] at c
      cases c
    have fin : ∀ h', Heap.SameBut a s.heap h' → TxtS P w h' a (L ++ [k]) → Q true { s with heap := h' } := fun h' sb r => by
      have q := hQ h' sb (by unfold insL; rw [if_neg hk]; exact r)
      rwa [decide_eq_false hk] at q
    have gw : ∀ (b : Bool) {s₁ : Shared} {Q' : Unit → Shared → Prop}, Q' () s₁ → wpAny (model P w) A (match b with | true => rule "set.scan.the-table-gave-way" | false => pure ()) Q' E s₁ := fun b s₁ Q' q => by
      cases b
      · exact wpAny_pure q
      · exact wpAny_rule q
    have q1 := layNew_perm t es ((strKind P w).hash k) (.str k tk)
    have q2 := layNew_fits t es ((strKind P w).hash k) (.str k tk)
    have q3 := layNew_ris t es ((strKind P w).hash k) (.str k tk) T.ris
    have q4 := layNew_led t es ((strKind P w).hash k) (.str k tk)
    dsimp only
    generalize layNew t es ((strKind P w).hash k) (.str k tk) = W at q1 q2 q3 q4 ⊢
    obtain ⟨fs, t1, wd, gave⟩ := W
    dsimp only at q1 q2 q3 q4 ⊢
    rw [Array.toList_push] at q1
    have gd : ∀ e ∈ fs.toList, TxE P w e := fun e he => by
      rcases List.mem_append.mp (q1.mem_iff.mp he) with z | z
      · exact T.good e z
      · rw [List.mem_singleton.mp z]
        exact ⟨k, tk, rfl, rfl⟩
    have pm : (fs.toList.map txtOf).Perm (L ++ [k]) := by
      have := q1.map txtOf
      rw [List.map_append] at this
      exact this.trans (T.perm.append_right _)
    have nd : (L ++ [k]).Nodup := by
      rw [List.nodup_append]
      exact ⟨T.nodup, by simp, fun x hx y hy e => hk (by rw [List.mem_singleton.mp hy] at e; rw [← e]; exact hx)⟩
    have hz : fs.size = L.length + 1 := by
      have := pm.length_eq
      rw [List.length_map, Array.length_toList, List.length_append] at this
      exact this
    have hb : fs.size < scanBound := by rw [hz]; exact room
    have ld : w.params.followText "set-order" = true ∨ t1.led = true := T.led.imp id fun z => Eq.trans q4 z
    refine wpAny_bind (gw _ ?_)
    split
    · refine wpAny_bind ?_
      rw [hashByValue_scannable 8 sc]
      refine wpAny_pure (tx_tail (fun b s₁ Q' q => gw b q) T.get T.ex T.data gd pm nd hb ?_ ?_ ?_ fun h' sb r => wpAny_pure (fin h' sb r))
      · first | (split <;> first | exact q2 | exact SetTable.fits_plain_off q2) | exact q2
      · first | (split <;> exact q3) | exact q3
      · first | (split <;> exact ld) | exact ld
    · refine wpAny_bind (wpAny_pure ?_)
      simp only [↓reduceIte]
      exact tx_tail (fun b s₁ Q' q => gw b q) T.get T.ex T.data gd pm nd hb q2 q3 ld fun h' sb r => wpAny_pure (fin h' sb r)
theorem TxtS.setOf (R : TxtS P w s.heap a L) : s.heap.SetOf (strKind P w) a (fun k => decide (k ∈ L)) L.length := by
  obtain ⟨o, es, ep, t, T⟩ := R
  exact ⟨o, es, ep, t, T.get, T.ex, T.data, tx_elems T.good, fun k => by rw [decide_eq_true_eq]; exact tx_mem T.good T.perm k, T.few, T.fit, T.size⟩
/-- found.add(text) -/
theorem tx_add {k : Str} {tk : Tok} {Q : Value → Shared → Prop} (R : TxtS P w s.heap a L) (room : L.length + 1 < scanBound)
    (hQ : ∀ h' tk', Heap.SameBut a s.heap h' → TxtS P w h' a (insL L k) → Q .none { s with heap := h', toks := tk' }) :
    wpAny (model P w) A (call (.builtin "set.add") [.ref a, .str k tk]) Q E s := by
  refine wpAny_call_entry F.slot_set_add R.setOf.typeIs F.entry_set_add ?_ (F.args_set_add_2 _ _)
  unfold Builtin.«set.add» Builtin.Frozenset.oneOther
  simp only [List.isEmpty_nil, bind_assoc]
  unfold Builtin.Frozenset.addrOf setAdd
  refine wpAny_bind (wpAny_pure ?_)
  try dsimp only
  refine wpAny_bind (wpAny_pure ?_)
  try dsimp only
  refine wpAny_bind (wpAny_holding (wpAny_bind ((strKind P w).pyHash (strKind_is _ _ k tk) (tx_hashed (s := { s with toks := s.toks + 1 }) R room fun h' sb r => ?_))))
  show wpAny _ _ (ret Value.none) _ _ _
  exact wpAny_pure ⟨_, rfl, hQ h' _ sb r⟩
theorem tx_fresh {h : Heap} : TxtS P w (h.push { cls := .type "set", dict := none, data := .set #[] 0 (.fresh 0 0 (!w.params.followText "set-order")) }) h.objs.size [] := by
  refine ⟨_, #[], 0, _, Heap.get?_push_size _ rfl, ⟨rfl, rfl, rfl⟩, rfl, fun e he => by simp at he, by simp, List.nodup_nil, by decide, rfl, List.Pairwise.nil, ?_⟩
  show _ ∨ (!w.params.followText "set-order") = true
  cases w.params.followText "set-order"
  · exact .inr rfl
  · exact .inl rfl
end
end Fv


set_option Elab.async false
set_option linter.all false
set_option maxRecDepth 100000
set_option maxHeartbeats 2000000
/-! sets of texts as tracked things; the comprehension; len and sorted of one; & of two empty ones -/
namespace Fv
open PySem PySem.Spec PyProof.Rows L2
def TxtO (P : Program) (w : World) (a : Addr) (L : List Str) : HO := .ext fun h => TxtS P w h a L
theorem txtO_new {P : Program} {w : World} {H : Hp} {h : Heap} {a : Addr} {L : List Str} (R : TxtS P w h a L) : ObjOk P w H h a (TxtO P w a L) :=
  ⟨R, let ⟨o, _, _, _, T⟩ := R; ⟨o, T.get⟩, fun _ _ p k => TxtS.at p k⟩
section
variable {X : Cx}
theorem txtO_get {pins : List (Addr × Obj)} {σ : L2.St} {H : Hp} {s : Shared} {a : Addr} {L : List Str} (I : Inv X pins σ H s) (ha : H a = some (TxtO X.prog X.w a L)) : TxtS X.prog X.w s.heap a L := (I.hok a _ ha).1
theorem tx_addI {pins : List (Addr × Obj)} {σ : L2.St} {H : Hp} {s : Shared} {E : Value → Shared → Prop} {D : Addr} {L : List Str} {k : Str} {tk : Tok} {Q : Value → Shared → Prop} (I : Inv X pins σ H s) (hD : H D = some (TxtO X.prog X.w D L)) (room : L.length + 1 < scanBound)
    (h : ∀ s', Inv X pins σ (upd H D (TxtO X.prog X.w D (insL L k))) s' → Q .none s') : wpAny (model X.prog X.w) X.A (call (.builtin "set.add") [.ref D, .str k tk]) Q E s := by
  refine tx_add (txtO_get I hD) room fun h' tk' sb new => ?_
  exact h _ (I.write (e := D) (t' := tk') (by rw [hD]; trivial) (.inl rfl) (fun b u hb hu => (sb.2 b hb).trans hu) (let ⟨o, _, _, _, T⟩ := new; ⟨o, T.get⟩) (txtO_new new))
/-- {elt for target in iter if ..}, elt a text: D the new set -/
def tScX (P : Program) (w : World) (wi : TI) (g : TG) (tt : TT) (te : TE) (vs : List Nat) : TE := fun σ H Q => wi σ H fun J H1 => ∀ D, H1 D = none → ∃ W : Nat → Nat → Hp → Prop, (∃ m, W 0 m (upd H1 D (TxtO P w D []))) ∧ ∀ i m H, W i m H →
  (J.stop i H ∧ Q (.ref D) H) ∨ (J.go i H ∧ ∃ Nx : Hp → Prop, (∀ H', Nx H' → ∃ m', m' < m ∧ W (i + 1) m' H') ∧ ∀ x H', J.yld i H x H' → g x (wipe σ vs) H' fun σ2 H2 => wipe σ2 vs = wipe σ vs ∧ tt σ2 H2 fun b H3 =>
    if b = true then te σ2 H3 fun y H4 => ∃ (z : Str) (L : List Str), y = .str z ∧ H4 D = some (TxtO P w D L) ∧ L.length + 1 < scanBound ∧ Nx (upd H4 D (TxtO P w D (insL L z))) else Nx H3)
theorem pe_scX {elt tg iter : Expr} {ifs : List Expr} {scope : Scope} {own : List (PySem.Str × Nat)} {pos : Pos} {wi : TI} {g : TG} {tt : TT} {te : TE} (hc : X.calm = true) (hN : X.N.Nodup) (hi : PI X tg iter wi) (ok : BlkOk X.N X.env.scope scope own)
    (hg : ∀ (s : Shared) (H : Hp) (C : Addr) (cl : List (PySem.Str × Addr)) (fp : List Addr), PG (X.blk s H scope (compEnvC scope cl C X.env) fp) tg g) (ht : ∀ (s : Shared) (H : Hp) (C : Addr) (cl : List (PySem.Str × Addr)) (fp : List Addr), PTs (X.blk s H scope (compEnvC scope cl C X.env) fp) ifs tt)
    (he : ∀ (s : Shared) (H : Hp) (C : Addr) (cl : List (PySem.Str × Addr)) (fp : List Addr), PE (X.blk s H scope (compEnvC scope cl C X.env) fp) elt te) (hs : ∀ x, foldedSetIterable iter X.env x = pure x := by intro _; rfl) :
    PE X (.SetComp elt [⟨tg, iter, ifs, 0⟩] scope pos) (tScX X.prog X.w wi g tt te (own.map (·.2))) := by
  refine ⟨fun pins s σ H Q I h => ?_⟩
  rw [PpSet.eval_SetComp]
  have free : ∀ y ∈ scope.names, y.2 = .free → ∃ c, X.env.cells.lookup y.1 = some c := fun y hy e => (ok.free y hy e).elim (fun k => I.ok.has _ (.inl k)) fun k => I.ok.has _ (.inr k)
  refine wpAny_comprehension_free rfl hs (closure_ok free) ok.kind (fun y hy e => by rw [ok.uniq y hy, e]) (thn (hi.run pins s σ H _ I h) fun xv s1 hx => thn hx fun itv s2 ⟨it, fp, tn, J, H2, e2, I2, T, st2, f2, q⟩ => ?_)
  subst e2
  refine PpSet.newSet_ok (newEnv_comp ?_)
  have nD : H2 s2.heap.objs.size = none := I2.hok.fresh (Nat.le_refl _)
  obtain ⟨W, ⟨m0, w0⟩, turn⟩ := q _ nD
  have I3 : Inv X pins σ (upd H2 s2.heap.objs.size (TxtO X.prog X.w s2.heap.objs.size [])) { s2 with heap := s2.heap.push { cls := .type "set", dict := none, data := .set #[] 0 (.fresh 0 0 (!X.w.params.followText "set-order")) } } :=
    I2.laid (t' := s2.toks) (fun b o e => Heap.get?_push_of_some _ e) (Nat.le_refl _) (txtO_new tx_fresh)
  have szf : ∀ b ∈ fp, b < s2.heap.objs.size := fun b hb => let ⟨_, e, _⟩ := T.obj _ _ st2 b hb; Heap.lt_size e
  obtain ⟨D, eD⟩ : ∃ D, D = s2.heap.objs.size := ⟨_, rfl⟩
  rw [← eD] at nD w0 turn I3 szf ⊢
  have k3 : ∀ b o, s2.heap.get? b = some o → (s2.heap.push { cls := .type "set", dict := none, data := .set #[] 0 (.fresh 0 0 (!X.w.params.followText "set-order")) }).get? b = some o := fun b o e => Heap.get?_push_of_some _ e
  have z3 : (s2.heap.push { cls := .type "set", dict := none, data := .set #[] 0 (.fresh 0 0 (!X.w.params.followText "set-order")) }).objs.size = D + 1 := by rw [Heap.size_push, eD]
  generalize e3 : ({ s2 with heap := s2.heap.push { cls := .type "set", dict := none, data := .set #[] 0 (.fresh 0 0 (!X.w.params.followText "set-order")) } } : Shared) = s3 at I3 ⊢
  have h3 : s3.heap = s2.heap.push { cls := .type "set", dict := none, data := .set #[] 0 (.fresh 0 0 (!X.w.params.followText "set-order")) } := by rw [← e3]
  rw [← h3] at k3 z3
  obtain ⟨H3, eH⟩ : ∃ H3, H3 = upd H2 D (TxtO X.prog X.w D []) := ⟨_, rfl⟩
  have fps : ∀ b ∈ fp, FpOk X pins H3 b ∧ b < s3.heap.objs.size := fun b hb => by
    refine ⟨⟨?_, (f2 b hb).2⟩, by rw [z3]; exact Nat.lt_succ_of_lt (szf b hb)⟩
    rw [eH, upd_ne (Nat.ne_of_lt (szf b hb))]
    exact (f2 b hb).1
  rw [← eH] at w0 I3
  have b4 := block_start I3 ok hN fps
  have st3 : tn 0 s3.heap := T.keep _ _ _ st2 fun b _ o e => k3 b o e
  show codeAny _ _ (.compStart (.SetComp elt [⟨tg, iter, ifs, 0⟩] scope pos) 0 (.ref it) (.ref D) (compEnvC scope (cellsFrom (s3.heap.objs.size + 1) scope.names (cloFrom X.env.cells scope.names [])) s3.heap.objs.size X.env)) (compPost (model X.prog X.w) X.A X.xe none _ (.ref D) s3.heap.objs.size) { s3 with heap := pushCells (s3.heap.push { cls := .type "dict", data := .dict #[] }) scope.names }
  have G1 := hg s3 H3 s3.heap.objs.size (cellsFrom (s3.heap.objs.size + 1) scope.names (cloFrom X.env.cells scope.names [])) fp
  have G2 := ht s3 H3 s3.heap.objs.size (cellsFrom (s3.heap.objs.size + 1) scope.names (cloFrom X.env.cells scope.names [])) fp
  have G3 := he s3 H3 s3.heap.objs.size (cellsFrom (s3.heap.objs.size + 1) scope.names (cloFrom X.env.cells scope.names [])) fp
  generalize ece : compEnvC scope (cellsFrom (s3.heap.objs.size + 1) scope.names (cloFrom X.env.cells scope.names [])) s3.heap.objs.size X.env = ce at b4 G1 G2 G3 ⊢
  have lc : ce.locals = s3.heap.objs.size := by rw [← ece]; rfl
  generalize e4 : ({ s3 with heap := pushCells (s3.heap.push { cls := .type "dict", data := .dict #[] }) scope.names } : Shared) = s4 at b4 ⊢
  have st4 : tn 0 s4.heap := T.keep _ _ _ st3 fun b _ o e => by rw [← e4]; exact pushCells_keeps _ _ _ _ (Heap.get?_push_of_some _ e)
  have still : ∀ {σ' : L2.St} {H' : Hp} {s' : Shared}, Inv (X.blk s3 H3 scope ce fp) [] σ' H' s' → (∀ b ∈ fp, H' b = none) → ∀ b ∈ fp, FpOk (X.blk s3 H3 scope ce fp) [] H' b := fun {σ' H' s'} J hn b hb =>
    ⟨hn b hb, (J.ok.exf b hb).1, J.ok.exfs b hb, Or.inl hb, fun x c e => (J.ok.exf b hb).2 x c e, fun p hp => by simp at hp⟩
  have walk : codeAny (model X.prog X.w) X.A (.compLoop (.SetComp elt [⟨tg, iter, ifs, 0⟩] scope pos) 0 (.ref it) (.ref D) ce) (compPost (model X.prog X.w) X.A X.xe none (EP X pins σ Q) (.ref D) s3.heap.objs.size) s4 := by
    refine PpSet.compLoopS_any (fun n s' => ∃ (i : Nat) (H' : Hp), Inv (X.blk s3 H3 scope ce fp) [] (wipe σ (own.map (·.2))) H' s' ∧ tn i s'.heap ∧ (∀ b ∈ fp, H' b = none) ∧ W i n H') (fun n s5 ⟨i, H5, I5, st5, n5, w5⟩ => ?_) m0 ⟨0, H3, b4, st4, fun b hb => (fps b hb).1.1, w0⟩
    rcases turn i n H5 w5 with ⟨stop, qq⟩ | ⟨go, Nx, hNx, step⟩
    · refine thnF (T.done (X.blk s3 H3 scope ce fp) rfl rfl rfl hc i [] s5 _ H5 (fun _ _ => False) I5 (still I5 n5) st5 stop) fun r s6 ⟨hr, I6⟩ => ?_
      subst hr
      have J := I3.call' (ch := fp) I6.os I6.base I6.hok I6.bare fun b hb => let f := (fps b hb).1.2; ⟨f.2.2.1, f.1, f.2.2.2.1, f.2.2.2.2⟩
      have nC : H5 s3.heap.objs.size = none := lc ▸ I6.free
      obtain ⟨m, hn, _⟩ := I6.loc
      have hn' : s6.heap.Ns s3.heap.objs.size m := lc ▸ (show s6.heap.Ns ce.locals m from hn)
      obtain ⟨f0, f1, f2, f3, f4, f5⟩ := I3.fpOk (Nat.le_refl _) nC
      exact ⟨m, hn', fun h'' sb => ⟨.ref D, H5, J.turned (t' := s6.toks) (fun b o hb e => (sb.2 b hb).trans e) f0 f1 f3 f4 f5, rfl, qq⟩⟩
    · refine thnF (T.item (X.blk s3 H3 scope ce fp) rfl rfl rfl hc i [] s5 _ H5 (fun _ _ => False) I5 (still I5 n5) st5 go) fun r s6 ⟨u, hr, h6⟩ => ?_
      subst hr
      refine thnF h6 fun _ s7 ⟨x, H7, I7, r7, y7, st7, n7⟩ => ?_
      have P7 := I7.pinned (still I7 n7) (T.obj _ _ st7)
      refine thnF (G1.run _ s7 _ H7 x u _ P7 r7 (step x H7 y7)) fun _ s8 ⟨σ8, H8, I8, hw8, q8⟩ => thnF (G2.run _ s8 σ8 H8 _ I8 q8) fun b s9 ⟨H9, I9, q9⟩ => ?_
      have fin : ∀ {s' : Shared} {H' : Hp}, Inv (X.blk s3 H3 scope ce fp) ([] ++ pinsAt fp s7.heap) σ8 H' s' → Nx H' → ∃ m, m < n ∧ ∃ (i : Nat) (H' : Hp), Inv (X.blk s3 H3 scope ce fp) [] (wipe σ (own.map (·.2))) H' s' ∧ tn i s'.heap ∧ (∀ b ∈ fp, H' b = none) ∧ W i m H' := fun {s' H'} J nx => by
        obtain ⟨m', hm, w'⟩ := hNx H' nx
        have kept : ∀ b ∈ fp, ∀ o, s7.heap.get? b = some o → s'.heap.get? b = some o ∧ H' b = none := fun b hb o e => by
          have z := J.pin (b, o) (List.mem_append_right _ (List.mem_append_right _ (mem_pinsAt hb e)))
          exact ⟨z.1, z.2.1⟩
        refine ⟨m', hm, i + 1, H', (J.unpinned (pins := [])).weak (by rw [← hw8, wipe_length]) (fun j v e => (wipe_some (hw8 ▸ e)).1), T.keep _ _ _ st7 fun b hb o e => (kept b hb o e).1, fun b hb => ?_, w'⟩
        obtain ⟨o, e, _⟩ := T.obj _ _ st7 b hb
        exact (kept b hb o e).2
      cases b with
      | false =>
        rw [if_neg Bool.false_ne_true] at q9 ⊢
        exact fin I9 q9
      | true =>
        rw [if_pos rfl] at q9 ⊢
        refine thnF (G3.run _ s9 σ8 H9 _ I9 q9) fun z s10 ⟨yv, H10, I10, r10, zt, L, ey, hD10, room, nx⟩ => ?_
        subst ey
        obtain ⟨tk, rfl⟩ := r10
        exact tx_addI (X := X.blk s3 H3 scope ce fp) I10 hD10 room fun s11 I11 => fin I11 nx
  exact PpSet.codeAny_compStart_set walk (T.self X.A 0 _ _ _ st4 walk)
/-- over anything that is walked -/
theorem sc_it {P : Program} {w : World} {J : It} {n : Nat} {G : Hp → Prop} {Y : Nat → Hp → V → Hp → Prop} (wk : Walk J n G Y) {g : TG} {tt : TT} {te : TE} {vs : List Nat} {σ : L2.St} {H1 : Hp} {D : Addr} {Qd : Hp → Prop} (Pv : Nat → Hp → Prop) (h0 : Pv 0 (upd H1 D (TxtO P w D []))) (hG : ∀ i H, i ≤ n → Pv i H → G H)
    (hs : ∀ i x H H', i < n → Pv i H → Y i H x H' → g x (wipe σ vs) H' fun σ2 H2 => wipe σ2 vs = wipe σ vs ∧ tt σ2 H2 fun b H3 =>
      if b = true then te σ2 H3 fun y H4 => ∃ (z : Str) (L : List Str), y = .str z ∧ H4 D = some (TxtO P w D L) ∧ L.length + 1 < scanBound ∧ Pv (i + 1) (upd H4 D (TxtO P w D (insL L z))) else Pv (i + 1) H3) (hd : ∀ H, Pv n H → Qd H) :
    ∃ W : Nat → Nat → Hp → Prop, (∃ m, W 0 m (upd H1 D (TxtO P w D []))) ∧ ∀ i m H, W i m H →
      (J.stop i H ∧ Qd H) ∨ (J.go i H ∧ ∃ Nx : Hp → Prop, (∀ H', Nx H' → ∃ m', m' < m ∧ W (i + 1) m' H') ∧ ∀ x H', J.yld i H x H' → g x (wipe σ vs) H' fun σ2 H2 => wipe σ2 vs = wipe σ vs ∧ tt σ2 H2 fun b H3 =>
        if b = true then te σ2 H3 fun y H4 => ∃ (z : Str) (L : List Str), y = .str z ∧ H4 D = some (TxtO P w D L) ∧ L.length + 1 < scanBound ∧ Nx (upd H4 D (TxtO P w D (insL L z))) else Nx H3) := by
  refine ⟨fun i m H => m + i = n ∧ Pv i H, ⟨n, rfl, h0⟩, fun i m H ⟨hm, p⟩ => ?_⟩
  rcases Nat.lt_or_ge i n with hlt | hge
  · exact .inr ⟨wk.goes i H hlt (hG i H (Nat.le_of_lt hlt) p), Pv (i + 1), fun H' p' => ⟨n - (i + 1), by omega, by omega, p'⟩, fun x H' y => hs i x H H' hlt p (wk.yields i H x H' hlt (hG i H (Nat.le_of_lt hlt) p) y)⟩
  · obtain rfl : i = n := by omega
    exact .inl ⟨wk.stops H (hG i H hge p), hd H p⟩
/-- len of such a set -/
def rLenX (P : Program) (w : World) : List V → Hp → VK → Prop := fun xs H Q => ∃ (a : Addr) (L : List Str), xs = [.ref a] ∧ H a = some (TxtO P w a L) ∧ Q (.int L.length) H
theorem call_lenX : CallR X (.builtin "len") (rLenX X.prog X.w) := by
  intro pins s σ H xs us Q I r h
  obtain ⟨a, L, rfl, ha, q⟩ := h
  rw [Vals.ref1 r]
  obtain ⟨o, es, ep, t, T⟩ := txtO_get I ha
  exact call_len_set T.get T.ex T.data T.fit (by
    have z1 := T.few
    have z2 : scanBound = 4096 := rfl
    omega) ⟨.int L.length, H, I.tok _, ⟨_, by rw [T.size]⟩, q⟩
theorem txt_strs : ∀ {vs : List Value}, (∀ v ∈ vs, ∃ k tk, v = Value.str k tk) → StrsAre vs (vs.map fun v => txtOf (0, v))
  | [], _ => .nil
  | v :: vs, h => by
    obtain ⟨k, tk, rfl⟩ := h v List.mem_cons_self
    exact .cons k tk (txt_strs fun u hu => h u (List.mem_cons_of_mem _ hu))
/-- sorted of one with fewer than 64 members -/
def rSortX (P : Program) (w : World) : List V → Hp → VK → Prop := fun xs H Q => ∃ (a : Addr) (L : List Str), xs = [.ref a] ∧ H a = some (TxtO P w a L) ∧ L.length < 64 ∧ ∀ ys p, ys.Perm L → sortedS ys = true → H p = none → p ≠ sysModules → Q (.ref p) (upd H p (.lst (ys.map V.str)))
theorem call_sortX (hc : X.calm = true) : CallR X (.builtin "sorted") (rSortX X.prog X.w) := by
  intro pins s σ H xs us Q I r h
  obtain ⟨a, L, rfl, ha, h64, q⟩ := h
  rw [Vals.ref1 r]
  obtain ⟨o, es, ep, t, T⟩ := txtO_get I ha
  refine Calls.call_function_entry PyProof.Rows.kind_sorted PyProof.Rows.plain_sorted PyProof.Rows.entry_sorted (PyProof.Rows.args_sorted1 _) ?_
  unfold Builtin.«sorted»
  refine wpAny_bind (m := checkCount "sorted" 1 1 _) (wpAny_pure (wpAny_bind (collect_set (A := X.A.in1) (I.ok.hd hc) ⟨o, T.get, T.ex.1, T.data⟩ T.fit T.few T.ris T.led fun s1 vs k1 z1 g1 o1 pm => ?_)))
  have vl : vs.length = L.length := by rw [pm.length_eq, List.length_map, Array.length_toList, T.size]
  have hS : StrsAre vs (vs.map fun v => txtOf (0, v)) := txt_strs fun v hv => by
    obtain ⟨e, he, q⟩ := List.mem_map.mp (pm.mem_iff.mp hv)
    obtain ⟨k, tk, h1, _⟩ := T.good e he
    exact ⟨k, tk, by rw [← q]; exact h1⟩
  have pL : (vs.map fun v => txtOf (0, v)).Perm L := by
    have := pm.map fun v => txtOf (0, v)
    rw [List.map_map] at this
    exact this.trans T.perm
  have I1 : Inv X pins σ H s1 := I.call' (ch := []) o1 (Un.kept k1) (I.hok.kept k1) (by rw [g1]; exact I.bare) (fun _ z => nomatch z)
  refine wpAny_bind (wpAny_newList ?_ (by rw [vl, sizeLine_eq]; omega))
  have oL : (s1.heap.push (seqObj "list" vs.toArray 0)).get? s1.heap.objs.size = some (seqObj "list" vs.toArray 0) := Heap.get?_push_size _ rfl
  refine wpAny_bind (wpAny_holding (wpAny_call_entry PyProof.Rows.slot_list_sort ⟨_, oL, rfl⟩ PyProof.Rows.entry_list_sort
    (list_sort_treeK strKind_oneLt (s := { s1 with heap := s1.heap.push (seqObj "list" vs.toArray 0) }) oL hS.keysOf (fun v₁ v₂ rest e => keyKind_strs (by rw [← e]; exact hS)) (by rw [vl]; exact h64) fun st' hp hs => ⟨_, rfl, ?_⟩)
    (PyProof.Rows.args_list_sort _)))
  obtain ⟨ys, a1, a2, a3⟩ := sorted_out_str hS hp hs
  obtain ⟨e', he'⟩ := PyProof.Rows.sortedHeap_at (vs := vs) (out := (arrOf st').map (·.2)) oL
  have yl : (ys.map V.str).length ≤ sizeLine := by
    rw [List.length_map, (a2.trans pL).length_eq, sizeLine_eq]
    omega
  refine wpAny_pure ⟨_, rfl, .ref s1.heap.objs.size, upd H s1.heap.objs.size (.lst (ys.map V.str)), I1.laid (t' := s1.toks) (fun b u e => ?_) (Nat.le_refl _)
    (show ObjOk X.prog X.w _ _ _ (.lst (ys.map V.str)) from ⟨yl, ((arrOf st').map (·.2)).toList, e', vals_of_strs a1, by rw [Array.toArray_toList]; exact he'⟩), rfl, q ys _ (a2.trans pL) a3 (I1.hok.fresh (Nat.le_refl _)) (Nat.ne_of_gt I1.big)⟩
  have hb : b < s1.heap.objs.size := Heap.lt_size e
  rw [PyProof.Rows.sortedHeap_old (Nat.ne_of_lt hb) (by rw [size_push']; exact Nat.lt_succ_of_lt hb)]
  exact Heap.get?_push_of_some _ e
end
end Fv


set_option Elab.async false
set_option linter.all false
set_option maxRecDepth 100000
set_option maxHeartbeats 2000000
namespace Fv
open PySem PySem.Spec PyProof.Rows L2
/-! ### & of two empty ones -/
theorem entry_set_meet : entryFor table "set.__and__" = some Builtin.«frozenset.__and__» := entryFor_alias (id' := "frozenset.__and__") (by kernel_rfl) rfl (by decide +kernel) (by kernel_rfl)
section
variable {P : Program} {w : World} {A : Around} {E : Value → Shared → Prop} {s : Shared} {a : Addr}
theorem TxS.none {h : Heap} {o : Obj} {es : Array (Int × Value)} {ep : Nat} {t : SetTable} (T : TxS P w h a [] o es ep t) : es = #[] := Array.eq_empty_of_size_eq_zero T.size
theorem walk_none {o : Obj} {es : Array (Int × Value)} {ep : Nat} {t : SetTable} {Q : Array (Int × Value) → Shared → Prop} (T : TxS P w s.heap a [] o es ep t) (q : Q #[] s) : wpAny (model P w) A (setWalk a) Q E s := by
  obtain rfl := T.none
  unfold setWalk
  refine wpAny_bind (wpAny_setState_of T.get T.data T.fit ?_)
  dsimp only
  refine wpAny_bind (wpAny_byText ?_)
  cases w.params.followText "set-order" with
  | true =>
    refine wp_if_pos rfl (wpAny_bind (wpAny_askSetting (wpAny_pure ?_)))
    have e : pickOrder (w.params.setOrder a ep) (#[] : Array (Int × Value)) = #[] := by
      have := (pick_perm (w.params.setOrder a ep) (#[] : Array (Int × Value))).length_eq
      exact Array.eq_empty_of_size_eq_zero (by simpa using this)
    show Q (pickOrder (w.params.setOrder a ep) (#[] : Array (Int × Value))) s
    rw [e]
    exact q
  | false =>
    refine wp_if_neg Bool.false_ne_true ?_
    try refine wpAny_bind (wpAny_pure ?_)
    refine wp_if_neg (by show ¬ ((!t.plain && decide ((#[] : Array (Int × Value)).size > 1)) = true); simp) ?_
    try refine wpAny_bind (wpAny_pure ?_)
    refine wpAny_bind (wpAny_of_eq (a := ()) (by show (if (!t.led && !(#[] : Array (Int × Value)).isEmpty) = true then unsupported _ else pure ()) = pure (); simp) ?_)
    exact wpAny_pure q
theorem unseen_none {o : Obj} {es : Array (Int × Value)} {ep : Nat} {t : SetTable} {others : List Addr} {fl : Option Addr} {Q : Array (Int × Value) → Shared → Prop} (T : TxS P w s.heap a [] o es ep t) (q : Q #[] s) : wpAny (model P w) A (setWalkUnseen a others fl) Q E s := by
  obtain rfl := T.none
  unfold setWalkUnseen
  refine wpAny_bind (wpAny_setState_of T.get T.data T.fit ?_)
  dsimp only
  refine wpAny_bind (wpAny_byText ?_)
  exact wp_if_pos (by simp) (walk_none T q)
theorem any_set {a : Addr} {Q : Bool → Shared → Prop} (hT : s.TypeIs (.ref a) "set") (q : Q true s) : wpAny (model P w) A (Builtin.Frozenset.isAnySet (.ref a)) Q E s := by
  unfold Builtin.Frozenset.isAnySet orM
  refine wpAny_bind (wpAny_isInstance (b := true) hT sub_set_self ?_)
  exact wpAny_pure q
theorem tx_meet {a b : Addr} {Q : Value → Shared → Prop} (hne : a ≠ b) (Ra : TxtS P w s.heap a []) (Rb : TxtS P w s.heap b [])
    (hQ : ∀ h', TxtS P w h' s.heap.objs.size [] → (∀ c u, s.heap.get? c = some u → h'.get? c = some u) → Q (.ref s.heap.objs.size) { s with heap := h' }) :
    wpAny (model P w) A (binaryOp .BitAnd (.ref a) (.ref b)) Q E s := by
  obtain ⟨oa, ea, pa, ta, Ta⟩ := Ra
  obtain ⟨ob, eb, pb, tb, Tb⟩ := Rb
  have ya : s.TypeIs (.ref a) "set" := ⟨oa, Ta.get, Ta.ex.1⟩
  have yb : s.TypeIs (.ref b) "set" := ⟨ob, Tb.get, Tb.ex.1⟩
  refine wpAny_binaryOp_same ya yb F.fills_set_and F.slot_set_and (wpAny_call_entry F.slot_set_and ya entry_set_meet ?_ (F.args_set_and_2 _ _))
  show wpAny (model P w) A.in1 (do
    let (self, other) ← Builtin.Frozenset.slot1 "__and__" _
    let (l, r) := if false then (other, self) else (self, other)
    if !(← (Builtin.Frozenset.isAnySet l <&&> Builtin.Frozenset.isAnySet r)) then rule _; return ← ret .notImplemented
    ret (← Builtin.Frozenset.intersection _ (← Builtin.Frozenset.addrOf l) r)) _ _ s
  refine wpAny_bind (m := Builtin.Frozenset.slot1 _ _) (wpAny_of_eq (a := (Value.ref a, Value.ref b)) (by rfl) ?_)
  dsimp only
  refine wpAny_bind (wpAny_bind (any_set ya (any_set yb ?_)))
  refine wp_if_neg (by simp) ?_
  try refine wpAny_bind (wpAny_pure ?_)
  show wpAny (model P w) A.in1 (Builtin.Frozenset.intersection _ a (.ref b) >>= fun v => ret v) _ _ s
  refine wpAny_bind ?_
  unfold Builtin.Frozenset.intersection
  refine wp_if_neg (by simp [Ne.symm hne]) ?_
  try refine wpAny_bind (wpAny_pure ?_)
  unfold Builtin.Frozenset.baseOf
  refine wpAny_bind (wpAny_bind (wpAny_isInstance (b := true) ya sub_set_self (wpAny_pure ?_)))
  refine wpAny_bind (PpSet.newSet_ok ?_)
  have nw := tx_fresh (P := P) (w := w) (h := s.heap)
  have kp : ∀ c u, s.heap.get? c = some u → (s.heap.push { cls := .type "set", dict := none, data := .set #[] 0 (.fresh 0 0 (!w.params.followText "set-order")) }).get? c = some u := fun c u e => Heap.get?_push_of_some _ e
  have Ta' := { Ta with get := kp _ _ Ta.get }
  have Tb' := { Tb with get := kp _ _ Tb.get }
  have fin := hQ _ nw kp
  unfold Builtin.Frozenset.addrOf
  refine wpAny_bind (wpAny_pure (wpAny_bind (wpAny_holding (wpAny_bind (any_set (a := b) ⟨ob, Tb'.get, Tb.ex.1⟩ (wp_if_pos rfl (wpAny_bind (wpAny_pure ?_))))))))
  unfold Builtin.Frozenset.sizeOf
  refine wpAny_bind (wpAny_bind (wpAny_setEntries_of Tb'.get Tb.data Tb.fit (wpAny_pure ?_)))
  refine wpAny_bind (wpAny_bind (wpAny_setEntries_of Ta'.get Ta.data Ta.fit (wpAny_pure ?_)))
  have e1 : ea = #[] := Ta.none
  have e2 : eb = #[] := Tb.none
  rw [if_neg (by rw [e1, e2]; decide)]
  dsimp only
  refine wpAny_bind (wpAny_setEpoch_of Tb'.get Tb.data Tb.fit ?_)
  refine wpAny_bind (unseen_none Tb' ?_)
  refine wpAny_bind (wpAny_of_eq (a := PUnit.unit) (by simp) ?_)
  exact wpAny_pure (wpAny_pure (wpAny_pure ⟨_, rfl, by simp, fin⟩))
end
def rMeet0 (P : Program) (w : World) : R2 := fun x y H Q => ∃ a b, x = .ref a ∧ y = .ref b ∧ a ≠ b ∧ H a = some (TxtO P w a []) ∧ H b = some (TxtO P w b []) ∧ ∀ p, H p = none → Q (.ref p) (upd H p (TxtO P w p []))
theorem op_meet0 {X : Cx} : OpR X (binaryOp .BitAnd) (rMeet0 X.prog X.w) := by
  intro pins s σ H x y v u Q I rx ry h
  obtain ⟨a, b, rfl, rfl, ne, ha, hb, q⟩ := h
  cases rx
  cases ry
  refine tx_meet ne (txtO_get I ha) (txtO_get I hb) fun h' R k => ?_
  exact ⟨.ref _, _, I.laid (t' := s.toks) k (Nat.le_refl _) (txtO_new R), rfl, q _ (I.hok.fresh (Nat.le_refl _))⟩
end Fv


set_option Elab.async false
set_option linter.all false
set_option maxRecDepth 100000
set_option maxHeartbeats 2000000
/-! list comprehensions and sorted lists at none of the first places -/
namespace Fv
open PySem PySem.Spec PyProof.Rows L2
section
variable {X : Cx}
/-- [elt for target in iter if ..], its place none of the first ones -/
def tLcB (wi : TI) (g : TG) (tt : TT) (te : TE) (vs : List Nat) : TE := fun σ H Q => wi σ H fun J H1 => ∀ D, H1 D = none → D ≠ sysModules → ∃ W : Nat → Nat → Hp → Prop, (∃ m, W 0 m (upd H1 D (.lst []))) ∧ ∀ i m H, W i m H →
  (J.stop i H ∧ Q (.ref D) H) ∨ (J.go i H ∧ ∃ Nx : Hp → Prop, (∀ H', Nx H' → ∃ m', m' < m ∧ W (i + 1) m' H') ∧ ∀ x H', J.yld i H x H' → g x (wipe σ vs) H' fun σ2 H2 => wipe σ2 vs = wipe σ vs ∧ tt σ2 H2 fun b H3 =>
    if b = true then te σ2 H3 fun y H4 => ∃ acc, H4 D = some (.lst acc) ∧ acc.length < sizeLine ∧ Nx (upd H4 D (.lst (acc ++ [y]))) else Nx H3)
theorem pe_lcB {elt tg iter : Expr} {ifs : List Expr} {scope : Scope} {own : List (PySem.Str × Nat)} {pos : Pos} {wi : TI} {g : TG} {tt : TT} {te : TE} (hc : X.calm = true) (hN : X.N.Nodup) (hi : PI X tg iter wi) (ok : BlkOk X.N X.env.scope scope own)
    (hg : ∀ (s : Shared) (H : Hp) (C : Addr) (cl : List (PySem.Str × Addr)) (fp : List Addr), PG (X.blk s H scope (compEnvC scope cl C X.env) fp) tg g) (ht : ∀ (s : Shared) (H : Hp) (C : Addr) (cl : List (PySem.Str × Addr)) (fp : List Addr), PTs (X.blk s H scope (compEnvC scope cl C X.env) fp) ifs tt)
    (he : ∀ (s : Shared) (H : Hp) (C : Addr) (cl : List (PySem.Str × Addr)) (fp : List Addr), PE (X.blk s H scope (compEnvC scope cl C X.env) fp) elt te) (hs : ∀ x, foldedSetIterable iter X.env x = pure x := by intro _; rfl) :
    PE X (.ListComp elt [⟨tg, iter, ifs, 0⟩] scope pos) (tLcB wi g tt te (own.map (·.2))) := by
  refine ⟨fun pins s σ H Q I h => ?_⟩
  rw [eval_ListComp]
  have free : ∀ y ∈ scope.names, y.2 = .free → ∃ c, X.env.cells.lookup y.1 = some c := fun y hy e => (ok.free y hy e).elim (fun k => I.ok.has _ (.inl k)) fun k => I.ok.has _ (.inr k)
  refine wpAny_comprehension_free rfl hs (closure_ok free) ok.kind (fun y hy e => by rw [ok.uniq y hy, e]) (thn (hi.run pins s σ H _ I h) fun xv s1 hx => thn hx fun itv s2 ⟨it, fp, tn, J, H2, e2, I2, T, st2, f2, q⟩ => ?_)
  subst e2
  refine wpAny_newObj_type (newEnv_comp ?_) (by show 0 ≤ sizeLine; decide)
  have nD : H2 s2.heap.objs.size = none := I2.hok.fresh (Nat.le_refl _)
  have big := Nat.ne_of_gt I2.big
  obtain ⟨W, ⟨m0, w0⟩, turn⟩ := q _ nD big
  have I3 : Inv X pins σ (upd H2 s2.heap.objs.size (.lst [])) { s2 with heap := s2.heap.push { cls := .type "list", data := .seq ([] : List Value).toArray } } :=
    I2.laid (t' := s2.toks) (fun b o e => Heap.get?_push_of_some _ e) (Nat.le_refl _) ⟨Nat.zero_le _, [], 0, .nil, Heap.get?_push_size _ rfl⟩
  have szf : ∀ b ∈ fp, b < s2.heap.objs.size := fun b hb => let ⟨_, e, _⟩ := T.obj _ _ st2 b hb; Heap.lt_size e
  obtain ⟨D, eD⟩ : ∃ D, D = s2.heap.objs.size := ⟨_, rfl⟩
  rw [← eD] at nD w0 turn I3 szf ⊢
  have k3 : ∀ b o, s2.heap.get? b = some o → (s2.heap.push { cls := .type "list", data := .seq ([] : List Value).toArray }).get? b = some o := fun b o e => Heap.get?_push_of_some _ e
  have z3 : (s2.heap.push { cls := .type "list", data := .seq ([] : List Value).toArray }).objs.size = D + 1 := by rw [Heap.size_push, eD]
  generalize e3 : ({ s2 with heap := s2.heap.push { cls := .type "list", data := .seq ([] : List Value).toArray } } : Shared) = s3 at I3 ⊢
  have h3 : s3.heap = s2.heap.push { cls := .type "list", data := .seq ([] : List Value).toArray } := by rw [← e3]
  rw [← h3] at k3 z3
  obtain ⟨H3, eH⟩ : ∃ H3, H3 = upd H2 D (.lst []) := ⟨_, rfl⟩
  have fps : ∀ b ∈ fp, FpOk X pins H3 b ∧ b < s3.heap.objs.size := fun b hb => by
    refine ⟨⟨?_, (f2 b hb).2⟩, by rw [z3]; exact Nat.lt_succ_of_lt (szf b hb)⟩
    rw [eH, upd_ne (Nat.ne_of_lt (szf b hb))]
    exact (f2 b hb).1
  rw [← eH] at w0 I3
  have b4 := block_start I3 ok hN fps
  have st3 : tn 0 s3.heap := T.keep _ _ _ st2 fun b _ o e => k3 b o e
  show codeAny _ _ (.compStart (.ListComp elt [⟨tg, iter, ifs, 0⟩] scope pos) 0 (.ref it) (.ref D) (compEnvC scope (cellsFrom (s3.heap.objs.size + 1) scope.names (cloFrom X.env.cells scope.names [])) s3.heap.objs.size X.env)) (compPost (model X.prog X.w) X.A X.xe none _ (.ref D) s3.heap.objs.size) { s3 with heap := pushCells (s3.heap.push { cls := .type "dict", data := .dict #[] }) scope.names }
  have G1 := hg s3 H3 s3.heap.objs.size (cellsFrom (s3.heap.objs.size + 1) scope.names (cloFrom X.env.cells scope.names [])) fp
  have G2 := ht s3 H3 s3.heap.objs.size (cellsFrom (s3.heap.objs.size + 1) scope.names (cloFrom X.env.cells scope.names [])) fp
  have G3 := he s3 H3 s3.heap.objs.size (cellsFrom (s3.heap.objs.size + 1) scope.names (cloFrom X.env.cells scope.names [])) fp
  generalize ece : compEnvC scope (cellsFrom (s3.heap.objs.size + 1) scope.names (cloFrom X.env.cells scope.names [])) s3.heap.objs.size X.env = ce at b4 G1 G2 G3 ⊢
  have lc : ce.locals = s3.heap.objs.size := by rw [← ece]; rfl
  generalize e4 : ({ s3 with heap := pushCells (s3.heap.push { cls := .type "dict", data := .dict #[] }) scope.names } : Shared) = s4 at b4 ⊢
  have st4 : tn 0 s4.heap := T.keep _ _ _ st3 fun b _ o e => by rw [← e4]; exact pushCells_keeps _ _ _ _ (Heap.get?_push_of_some _ e)
  have still : ∀ {σ' : L2.St} {H' : Hp} {s' : Shared}, Inv (X.blk s3 H3 scope ce fp) [] σ' H' s' → (∀ b ∈ fp, H' b = none) → ∀ b ∈ fp, FpOk (X.blk s3 H3 scope ce fp) [] H' b := fun {σ' H' s'} J hn b hb =>
    ⟨hn b hb, (J.ok.exf b hb).1, J.ok.exfs b hb, Or.inl hb, fun x c e => (J.ok.exf b hb).2 x c e, fun p hp => by simp at hp⟩
  have walk : codeAny (model X.prog X.w) X.A (.compLoop (.ListComp elt [⟨tg, iter, ifs, 0⟩] scope pos) 0 (.ref it) (.ref D) ce) (compPost (model X.prog X.w) X.A X.xe none (EP X pins σ Q) (.ref D) s3.heap.objs.size) s4 := by
    refine compLoop_any (fun n s' => ∃ (i : Nat) (H' : Hp), Inv (X.blk s3 H3 scope ce fp) [] (wipe σ (own.map (·.2))) H' s' ∧ tn i s'.heap ∧ (∀ b ∈ fp, H' b = none) ∧ W i n H') (fun n s5 ⟨i, H5, I5, st5, n5, w5⟩ => ?_) m0 ⟨0, H3, b4, st4, fun b hb => (fps b hb).1.1, w0⟩
    rcases turn i n H5 w5 with ⟨stop, qq⟩ | ⟨go, Nx, hNx, step⟩
    · refine thnF (T.done (X.blk s3 H3 scope ce fp) rfl rfl rfl hc i [] s5 _ H5 (fun _ _ => False) I5 (still I5 n5) st5 stop) fun r s6 ⟨hr, I6⟩ => ?_
      subst hr
      have J := I3.call' (ch := fp) I6.os I6.base I6.hok I6.bare fun b hb => let f := (fps b hb).1.2; ⟨f.2.2.1, f.1, f.2.2.2.1, f.2.2.2.2⟩
      have nC : H5 s3.heap.objs.size = none := lc ▸ I6.free
      obtain ⟨m, hn, _⟩ := I6.loc
      have hn' : s6.heap.Ns s3.heap.objs.size m := lc ▸ (show s6.heap.Ns ce.locals m from hn)
      obtain ⟨f0, f1, f2, f3, f4, f5⟩ := I3.fpOk (Nat.le_refl _) nC
      exact ⟨m, hn', fun h'' sb => ⟨.ref D, H5, J.turned (t' := s6.toks) (fun b o hb e => (sb.2 b hb).trans e) f0 f1 f3 f4 f5, rfl, qq⟩⟩
    · refine thnF (T.item (X.blk s3 H3 scope ce fp) rfl rfl rfl hc i [] s5 _ H5 (fun _ _ => False) I5 (still I5 n5) st5 go) fun r s6 ⟨u, hr, h6⟩ => ?_
      subst hr
      refine thnF h6 fun _ s7 ⟨x, H7, I7, r7, y7, st7, n7⟩ => ?_
      have P7 := I7.pinned (still I7 n7) (T.obj _ _ st7)
      refine thnF (G1.run _ s7 _ H7 x u _ P7 r7 (step x H7 y7)) fun _ s8 ⟨σ8, H8, I8, hw8, q8⟩ => thnF (G2.run _ s8 σ8 H8 _ I8 q8) fun b s9 ⟨H9, I9, q9⟩ => ?_
      have fin : ∀ {s' : Shared} {H' : Hp}, Inv (X.blk s3 H3 scope ce fp) ([] ++ pinsAt fp s7.heap) σ8 H' s' → Nx H' → ∃ m, m < n ∧ ∃ (i : Nat) (H' : Hp), Inv (X.blk s3 H3 scope ce fp) [] (wipe σ (own.map (·.2))) H' s' ∧ tn i s'.heap ∧ (∀ b ∈ fp, H' b = none) ∧ W i m H' := fun {s' H'} J nx => by
        obtain ⟨m', hm, w'⟩ := hNx H' nx
        have kept : ∀ b ∈ fp, ∀ o, s7.heap.get? b = some o → s'.heap.get? b = some o ∧ H' b = none := fun b hb o e => by
          have z := J.pin (b, o) (List.mem_append_right _ (List.mem_append_right _ (mem_pinsAt hb e)))
          exact ⟨z.1, z.2.1⟩
        refine ⟨m', hm, i + 1, H', (J.unpinned (pins := [])).weak (by rw [← hw8, wipe_length]) (fun j v e => (wipe_some (hw8 ▸ e)).1), T.keep _ _ _ st7 fun b hb o e => (kept b hb o e).1, fun b hb => ?_, w'⟩
        obtain ⟨o, e, _⟩ := T.obj _ _ st7 b hb
        exact (kept b hb o e).2
      cases b with
      | false =>
        rw [if_neg Bool.false_ne_true] at q9 ⊢
        exact fin I9 q9
      | true =>
        rw [if_pos rfl] at q9 ⊢
        exact thnF (G3.run _ s9 σ8 H9 _ I9 q9) fun z s10 ⟨yv, H10, I10, r10, acc, hD10, room, nx⟩ => app_ok (X := X.blk s3 H3 scope ce fp) I10 hD10 room r10 fun s11 I11 => fin I11 nx
  exact codeAny_compStart_list walk (T.self X.A 0 _ _ _ st4 walk)
/-- sorted of a list or a tuple of fewer than 64 texts -/
def rSortB (K : PySem.W.Frag) : List V → Hp → VK → Prop := fun xs H Q => ∃ (a : Addr) (zs : List Str), xs = [.ref a] ∧ (SqL K H a (zs.map V.str) ∨ SqT K H a (zs.map V.str)) ∧ zs.length < 64 ∧ ∀ ys p, ys.Perm zs → sortedS ys = true → H p = none → p ≠ sysModules → Q (.ref p) (upd H p (.lst (ys.map V.str)))
theorem call_sortB : CallR X (.builtin "sorted") (rSortB X.K) := by
  intro pins s σ H xs us Q I r h
  obtain ⟨a, zs, rfl, ha, h64, q⟩ := h
  rw [Vals.ref1 r]
  obtain ⟨T, o, its, n, hT, rv, ho, hc, hd⟩ : ∃ (T : String) (o : Obj) (its : List Value) (n : Nat), (T = "list" ∨ T = "tuple") ∧ Vals (zs.map V.str) its ∧ s.heap.get? a = some o ∧ o.cls = .type T ∧ o.data = .seq its.toArray n := by
    rcases ha with ha | ha
    · obtain ⟨its, rv, pl, _⟩ := I.list ha
      obtain ⟨o, ho, hc, n, hd⟩ := pl.isList
      exact ⟨_, o, its, n, .inl rfl, rv, ho, hc, hd⟩
    · obtain ⟨its, rv, ⟨o, ho, hc, n, hd⟩, _⟩ := I.tuple ha
      exact ⟨_, o, its, n, .inr rfl, rv, ho, hc, hd⟩
  have vl : its.length = zs.length := by rw [← rv.length, List.length_map]
  refine Calls.call_function_entry PyProof.Rows.kind_sorted PyProof.Rows.plain_sorted PyProof.Rows.entry_sorted (PyProof.Rows.args_sorted1 _) ?_
  unfold Builtin.«sorted»
  refine wpAny_bind (m := checkCount "sorted" 1 1 _) (wpAny_pure (wpAny_bind (wpAny_collect_seq a hT ho hc hd (fun h1 k1 => ?_) (by rw [List.size_toArray, vl, sizeLine_eq]; omega))))
  have hS : StrsAre its zs := rv.strs
  have I1 : Inv X pins σ H { s with heap := h1 } := I.kept (t' := s.toks) k1
  refine wpAny_bind (wpAny_newList ?_ (by rw [show its.toArray.toList = its by simp, vl, sizeLine_eq]; omega))
  have oL : (h1.push (seqObj "list" its.toArray.toList.toArray 0)).get? h1.objs.size = some (seqObj "list" its.toArray.toList.toArray 0) := Heap.get?_push_size _ rfl
  rw [show its.toArray.toList = its by simp] at oL ⊢
  show wpAny _ _ _ _ _ { s with heap := h1.push (seqObj "list" its.toArray 0) }
  refine wpAny_bind (wpAny_holding (wpAny_call_entry PyProof.Rows.slot_list_sort ⟨_, oL, rfl⟩ PyProof.Rows.entry_list_sort
    (list_sort_treeK strKind_oneLt (s := { s with heap := h1.push (seqObj "list" its.toArray 0) }) oL hS.keysOf (fun v₁ v₂ rest e => keyKind_strs (by rw [← e]; exact hS)) (by rw [vl]; exact h64) fun st' hp hs => ⟨_, rfl, ?_⟩)
    (PyProof.Rows.args_list_sort _)))
  obtain ⟨ys, a1, a2, a3⟩ := sorted_out_str hS hp hs
  obtain ⟨e', he'⟩ := PyProof.Rows.sortedHeap_at (vs := its) (out := (arrOf st').map (·.2)) oL
  have yl : (ys.map V.str).length ≤ sizeLine := by
    rw [List.length_map, a2.length_eq, sizeLine_eq]
    omega
  refine wpAny_pure ⟨_, rfl, .ref h1.objs.size, upd H h1.objs.size (.lst (ys.map V.str)), I1.laid (t' := s.toks) (fun b u e => ?_) (Nat.le_refl _)
    (show ObjOk X.prog X.w _ _ _ (.lst (ys.map V.str)) from ⟨yl, ((arrOf st').map (·.2)).toList, e', vals_of_strs a1, by rw [Array.toArray_toList]; exact he'⟩), rfl, q ys _ a2 a3 (I1.hok.fresh (Nat.le_refl _)) (Nat.ne_of_gt I1.big)⟩
  have hb : b < h1.objs.size := Heap.lt_size e
  rw [PyProof.Rows.sortedHeap_old (Nat.ne_of_lt hb) (by rw [size_push']; exact Nat.lt_succ_of_lt hb)]
  exact Heap.get?_push_of_some _ e
end
end Fv


set_option Elab.async false
set_option linter.all false
set_option maxRecDepth 100000
set_option maxHeartbeats 4000000
namespace Fv
open PySem PySem.Spec PyProof.Rows L2
abbrev sNames : Stmt := top 29
/-- letters a to z alone -/
def asc (z : Str) : Prop := ∀ c ∈ z.cps.toList, c ∈ abc.cps.toList
theorem toList_add (x y : Str) : (x ++ y).cps.toList = x.cps.toList ++ y.cps.toList := by
  show (x.cps ++ y.cps).toList = _
  simp
theorem asc_add {x y : Str} (h : asc x) (k : asc y) : asc (x ++ y) := by
  intro c hc
  rw [toList_add] at hc
  exact (List.mem_append.mp hc).elim (h c) (k c)
theorem asc_cut {z : Str} (h : asc z) (lo hi : Option Int) : asc (cutS z lo hi) := by
  intro c hc
  unfold cutS at hc
  have h1 := List.mem_of_mem_take (show c ∈ _ from by simpa using hc)
  exact h c (List.mem_of_mem_drop h1)
theorem asc_one {z : Str} (h : asc z) {i : Nat} {c : Nat} (e : z.cps.toList[i]? = some c) : asc ⟨#[c]⟩ := by
  intro x hx
  have : x = c := by simpa using hx
  rw [this]
  exact h c (List.mem_of_getElem? e)
theorem len_list (z : Str) : z.cps.toList.length = z.length := by simp [Str.length]
theorem abc_len : abc.length = 26 := by decide +kernel
theorem abc_asc : asc abc := fun _ h => h
theorem line300 {n : Nat} (h : n ≤ 300) : n ≤ sizeLine := Nat.le_trans h (by decide)
theorem cut_parts (z : Str) (k : Nat) : (cutS z none (some (k : Int))).length + (cutS z (some (k : Int)) none).length = z.length := by
  unfold cutS Str.length
  simp only [HT.sIx_none, HT.sIx_nat]
  simp
  omega
def NmOk (z : Str) : Prop := 1 ≤ z.length ∧ z.length ≤ 8 ∧ asc z
theorem NmOk.name {z : Str} (h : NmOk z) : nameS z = true := by
  unfold nameS
  rw [decide_eq_true h.1, decide_eq_true h.2.1]
  simp only [Bool.true_and, List.all_eq_true, decide_eq_true_eq]
  exact h.2.2
theorem nm_of {z : Str} (h : nameS z = true) : NmOk z := by
  unfold nameS at h
  simp only [Bool.and_eq_true, decide_eq_true_eq, List.all_eq_true] at h
  exact ⟨h.1.1, h.1.2, h.2⟩
theorem nz26 : (26 : Int) ≠ 0 := by decide
def one (c : Nat) : Str := ⟨#[c]⟩
theorem join_ones : ∀ cs : List Nat, Str.join "" (cs.map one) = ⟨cs.toArray⟩
  | [] => by decide +kernel
  | [c] => rfl
  | c :: d :: r => by
    have ih := join_ones (d :: r)
    show one c ++ "" ++ Str.join "" ((d :: r).map one) = _
    rw [ih]
    have e : ∀ x y : Str, x.cps.toList = y.cps.toList → x = y := by
      rintro ⟨x⟩ ⟨y⟩ h
      have : x = y := by simpa using h
      rw [this]
    apply e
    rw [toList_add, toList_add]
    have e0 : ("" : Str).cps.toList = [] := by decide +kernel
    rw [e0]
    simp [one]
theorem sum_ones : ∀ cs : List Nat, ((cs.map one).map (·.length)).sum = cs.length
  | [] => rfl
  | c :: r => by
    rw [List.map_cons, List.map_cons, List.sum_cons, sum_ones r]
    show 1 + r.length = r.length + 1
    omega
theorem cut_map {α : Type} (f : α → V) (xs : List α) (lo hi : Option Int) : cutV (xs.map f) lo hi = ((xs.drop (HT.sIx xs.length 0 lo)).take (HT.sIx xs.length xs.length hi - HT.sIx xs.length 0 lo)).map f := by
  unfold cutV
  rw [List.length_map, ← List.map_drop, ← List.map_take]
theorem tops (WS : List Str) (t m : Nat) (hm : m ≤ WS.length) : ∃ zs : List Str, cutV (cutV (WS.map V.str) (some (t : Int)) none ++ cutV (WS.map V.str) none (some (t : Int))) none (some (m : Int)) = zs.map V.str ∧ zs.length = m ∧ (∀ z ∈ zs, z ∈ WS) ∧ (WS.Nodup → zs.Nodup) := by
  rw [cut_map, cut_map, ← List.map_append, cut_map]
  refine ⟨_, rfl, ?_, ?_, ?_⟩
  · simp only [HT.sIx_none, HT.sIx_nat, List.length_take, List.length_drop, List.length_append, List.drop_zero, Nat.sub_zero]
    omega
  · intro z hz
    have h1 := List.mem_of_mem_drop (List.mem_of_mem_take hz)
    rcases List.mem_append.mp h1 with q | q
    · exact List.mem_of_mem_drop (List.mem_of_mem_take q)
    · exact List.mem_of_mem_drop (List.mem_of_mem_take q)
  · intro nd
    refine List.Nodup.sublist ((List.take_sublist _ _).trans (List.drop_sublist _ _)) ?_
    simp only [HT.sIx_none, HT.sIx_nat, List.drop_zero, Nat.sub_zero]
    refine List.nodup_append.mpr ⟨nd.sublist ((List.take_sublist _ _).trans (List.drop_sublist _ _)), nd.sublist (List.take_sublist _ _), ?_⟩
    intro a ha b hb e
    subst e
    have h1 := List.mem_of_mem_take ha
    have nd2 := nd
    rw [← List.take_append_drop (min t WS.length) WS, List.nodup_append] at nd2
    exact nd2.2.2 a hb a h1 rfl
/-- the letters of one draw are unlike -/
def ltr (t j : Nat) : Nat := abc.cps.toList.getD ((t + 3 * j) % 26) 0
theorem ltr_inj : ∀ t : Nat, t < 20 → ∀ i : Nat, i < 20 → ∀ j : Nat, j < 20 → ltr t i = ltr t j → i = j := by decide +kernel
theorem append_mid {x z : Str} {a b : Nat} (h : x ++ ⟨#[a]⟩ ++ z = x ++ ⟨#[b]⟩ ++ z) : a = b := by
  have e := congrArg (fun s : Str => s.cps.toList) h
  simp only [toList_add] at e
  have e2 := List.append_cancel_right e
  have e3 := List.append_cancel_left e2
  simpa using e3
theorem nodup_of {α : Type} (f : Nat → α) (n : Nat) (h : ∀ i, i < n → ∀ j, j < n → f i = f j → i = j) : ((List.range n).map f).Nodup := by
  induction n with
  | zero => simp
  | succ n ih =>
    rw [List.range_succ, List.map_append, List.nodup_append]
    refine ⟨ih (fun i hi j hj => h i (by omega) j (by omega)), by simp, ?_⟩
    intro a ha b hb e
    obtain ⟨i, hi, rfl⟩ := List.mem_map.1 ha
    have hi := List.mem_range.1 hi
    simp only [List.map_cons, List.map_nil, List.mem_singleton] at hb
    subst hb
    have := h i (by omega) n (by omega) e
    omega
theorem ltr_at {t i r : Nat} (er : ((t : Int) + 3 * (0 + (i : Int))).fmod 26 = (r : Int)) (hl : r < abc.cps.toList.length) : abc.cps.toList[r] = ltr t i := by
  have e : (t + 3 * i) % 26 = r := by
    have h : ((t : Int) + 3 * (0 + (i : Int))).fmod 26 = ((t : Int) + 3 * (0 + (i : Int))) % 26 := Int.fmod_eq_emod_of_nonneg _ (by omega)
    omega
  unfold ltr
  rw [e, List.getD_eq_getElem?_getD, List.getElem?_eq_getElem hl]
  rfl
/-- not both of two strange names -/
def ZQ (zs : List Str) : Prop := (("zzzzzzzz" : Str) ∈ zs → ("qqqqqqqq" : Str) ∈ zs → False) ∧ (("yyyyyyyy" : Str) ∈ zs → ("rrrrrrrr" : Str) ∈ zs → False)
theorem zq_mid {a b x y : Str} {p q c d : Nat} (ha : ∀ c ∈ a.cps.toList, c = p) (hb : ∀ c ∈ b.cps.toList, c = q) (npq : p ≠ q) (hx : 1 ≤ x.length + y.length) (h1 : a = x ++ ⟨#[c]⟩ ++ y) (h2 : b = x ++ ⟨#[d]⟩ ++ y) : False := by
  have e1 := congrArg (fun s : Str => s.cps.toList) h1
  have e2 := congrArg (fun s : Str => s.cps.toList) h2
  simp only [toList_add] at e1 e2
  obtain ⟨u, hu⟩ : ∃ u, u ∈ x.cps.toList ++ y.cps.toList := by
    rw [← len_list, ← len_list, ← List.length_append] at hx
    exact List.exists_mem_of_length_pos hx
  have i1 : ∀ e : Nat, u ∈ x.cps.toList ++ [e] ++ y.cps.toList := fun e => by
    rcases List.mem_append.mp hu with h | h
    · exact List.mem_append_left _ (List.mem_append_left _ h)
    · exact List.mem_append_right _ h
  have k1 := ha u (by rw [e1]; exact i1 c)
  have k2 := hb u (by rw [e2]; exact i1 d)
  exact npq (k1.symm.trans k2)
def spNames : Sp := fun vs H Q _ => ∃ (b : Addr) (m : Nat), vs = [.ref b, .int m] ∧ Bag H b ∧ m ≤ 20 ∧ ∀ (p : Addr) (zs : List Str) (H' : Hp), H' p = some (.lst (zs.map V.str)) → zs.length = m → p ≠ b → p ≠ sysModules → (∀ z ∈ zs, NmOk z) → zs.Nodup → ZQ zs → Bag H' b → Keep b H H' → (∀ c, BagAt H b c → BagAt H' b c) → Q (.ref p) H'
section
variable {P : Program} {w : World} {K : PySem.W.Frag} {mg : Str → Option Value} {base : Heap}
abbrev nN : List Str := ["_law_bag_here", "_law_many", "_law_letters", "_law_words", "_law_style", "_law_turn", "_law_base", "_law_at", "_law_k"]
theorem scN : FnScope nN ["_law_bag_here", "_law_many"] (defScope sNames) := ⟨rfl, rfl, rfl, by decide +kernel, rfl, by decide +kernel, by decide +kernel⟩
theorem ok_names {f fT : Addr} {fd fdT : FuncData} (F : Fun K "_law_names" "_law_names" sNames f fd) (GT : FnOk P w K mg base CX0 1 fT fdT ["_law_bag_here", "_law_many"] spTake) (bT : Binds K fdT ["_law_bag_here", "_law_many"] []) (mT : mg "_law_take" = some (.ref fT)) (kT : PySem.W.keepIn K (.ref fT) = true)
    (mr : mg "range" = none) (ml : mg "len" = none) (mi : mg "int" = none) : FnOk P w K mg base CX0 3 f fd ["_law_bag_here", "_law_many"] spNames := by
  refine F.ok scN (fun vs H Q E h => ?_) (fun cdv A outer s H vs Q E hr h => ?_)
  · obtain ⟨b, m, rfl, _⟩ := h
    rfl
  · obtain ⟨b, m, rfl, B, m2, q⟩ := h
    have hr1 : Room 1 _ := hr.mono (by decide)
    refine ⟨_, pss_cons (ps_set (i := 2) scN.nd rfl (.inr rfl) pe_str)
      (pss_cons (ps_set (i := 3) scN.nd rfl (.inl rfl) pe_str)
      (pss_cons (ps_set (i := 3) scN.nd rfl (.inl rfl) (pe_split (pe_op op_add_str (pv 3) pe_str) pe_str))
      (pss_cons (ps_asg (pe_tup (pa_cons (pe_call GT hr1 (by rfl) mT kT bT .nil pass0 (pa_cons (pv 0) (pa_cons pe_int pa_nil))) (pa_cons (pe_call GT hr1 (by rfl) mT kT bT .nil pass0 (pa_cons (pv 0) (pa_cons pe_int pa_nil))) pa_nil)))
          (pg_tup (by rfl) (pgs_cons (pg_name (i := 4) scN.nd rfl (.inl rfl)) (pgs_cons (pg_name (i := 5) scN.nd rfl (.inr rfl)) pgs_nil))))
      (pss_cons (ps_set (i := 6) scN.nd rfl (.inr rfl) (pe_join pe_str
          (pe_lc (own := [("_law_k", 8)]) (g := gName 8) (tt := tYes) rfl scN.nd (pi_range1 (by rfl) mr (pa_cons (pe_op op_add pe_int (pe_call GT hr1 (by rfl) mT kT bT .nil pass0 (pa_cons (pv 0) (pa_cons pe_int pa_nil)))) pa_nil)) (blkOk_by (N := nN) (sc := defScope sNames) (by decide +kernel))
            (fun _ _ _ _ _ => pg_name (i := 8) scN.nd rfl (Or.inl rfl)) (fun _ _ _ _ _ => pts_nil) (fun _ _ _ _ _ => pe_ix ix_str (pv 2) (pe_call GT hr1 (by rfl) mT kT bT .nil pass0 (pa_cons (pv 0) (pa_cons pe_int pa_nil))) (fun _ _ => rfl)))))
      (pss_cons (ps_set (i := 7) scN.nd rfl (.inr rfl) (pe_call GT hr1 (by rfl) mT kT bT .nil pass0 (pa_cons (pv 0) (pa_cons (pe_op op_add (pe_callB call_len_str (by rfl) ml PySem.boot_len (pa_cons (pv 6) pa_nil)) pe_int) pa_nil))))
      (pss_cons (ps_if (pt_cmpR op_eq (pv 4) pe_int (nomark _))
        (pss_one (ps_ret (pe_slice (r := rSlB K) sl_listB (pe_op op_cat (pe_slice sl_list (pv 3) (po_some (pv 5)) po_none) (pe_slice sl_list (pv 3) po_none (po_some (pv 5)))) po_none (po_some (pv 1))))) pss_nil)
      (pss_cons (ps_if (pt_cmpR op_eq (pv 4) pe_int (nomark _))
        (pss_one (ps_ret (pe_lcB (own := [("_law_k", 8)]) (g := gName 8) (tt := tYes) rfl scN.nd (pi_range1 (by rfl) mr (pa_cons (pv 1) pa_nil)) (blkOk_by (N := nN) (sc := defScope sNames) (by decide +kernel))
            (fun _ _ _ _ _ => pg_name (i := 8) scN.nd rfl (Or.inl rfl)) (fun _ _ _ _ _ => pts_nil) (fun _ _ _ _ _ => pe_ix ix_str (pv 2) (pe_op op_modN (pe_callTy call_int1 (by rfl) mi (by decide +kernel) (pa_cons (pe_op op_add (pv 5) (pe_op op_mul pe_int (pv 8))) pa_nil)) pe_int) (fun _ _ => rfl))))) pss_nil)
      (pss_one (ps_ret (pe_lcB (own := [("_law_k", 8)]) (g := gName 8) (tt := tYes) rfl scN.nd (pi_range1 (by rfl) mr (pa_cons (pv 1) pa_nil)) (blkOk_by (N := nN) (sc := defScope sNames) (by decide +kernel))
            (fun _ _ _ _ _ => pg_name (i := 8) scN.nd rfl (Or.inl rfl)) (fun _ _ _ _ _ => pts_nil) (fun _ _ _ _ _ => pe_op op_add_str (pe_op op_add_str (pe_slice sl_str (pv 6) po_none (po_some (pv 7))) (pe_ix ix_str (pv 2) (pe_op op_modN (pe_callTy call_int1 (by rfl) mi (by decide +kernel) (pa_cons (pe_op op_add (pv 5) (pe_op op_mul pe_int (pv 8))) pa_nil)) pe_int) (fun _ _ => rfl)))
              (pe_slice sl_str (pv 6) (po_some (pv 7)) po_none)))))))))))), ?_⟩
    refine asgC (asgC ?_)
    refine ⟨_, rfl, _, _, rfl, rfl, by decide +kernel, ⟨_, rfl⟩, _, _, rfl, rfl, by decide +kernel, by decide +kernel, fun pw npw => ?_⟩
    dsimp only
    generalize eW : Txt.split _ _ = WS
    have lW : WS.length = 25 := by
      rw [← eW]
      decide +kernel
    have dW : WS.Nodup := by
      rw [← eW]
      decide +kernel
    have zW : ("zzzzzzzz" : Str) ∉ WS := by
      rw [← eW]
      decide +kernel
    have yW : ("yyyyyyyy" : Str) ∉ WS := by
      rw [← eW]
      decide +kernel
    have nW : ∀ z ∈ WS, NmOk z := by
      rw [← eW]
      exact fun z hz => nm_of (List.all_eq_true.mp (by decide +kernel) z hz)
    have B1 := B.new (o := .lst (WS.map V.str)) npw
    have pwb : pw ≠ b := by
      obtain ⟨o, e⟩ := B.at_b
      exact (ne_of_none e npw).symm
    refine ⟨_, rfl, b, 4, rfl, B1, by decide, by decide, fun st H2 h2 B2 k2 g2 => ?_⟩
    refine ⟨_, rfl, b, 20, rfl, B2, by decide, by decide, fun tu H3 h3 B3 k3 g3 => ?_⟩
    refine ⟨by show 2 ≤ sizeLine; decide, fun t nt => ⟨t, _, rfl, SqT.of upd_same, rfl, _, _, rfl, _, _, rfl, rfl, ?_⟩⟩
    have B4 := B3.new (o := .tup [.int st, .int tu]) nt
    have k04 : Keep b H (upd H3 t (.tup [.int st, .int tu])) := (((Keep.new npw).trans k2).trans k3).trans (Keep.new nt)
    have ew4 : (upd H3 t (.tup [.int st, .int tu])) pw = some (.lst (WS.map V.str)) := by
      have e := k3 _ _ pwb (k2 _ _ pwb upd_same)
      rw [upd_ne (ne_of_none e nt)]
      exact e
    refine ⟨⟨_, rfl⟩, _, rfl, b, 7, rfl, B4, by decide, by decide, fun n7 H5 h5 B5 k5 g5 => ?_⟩
    have k05 := k04.trans k5
    have ew5 := k5 _ _ pwb ew4
    refine ⟨_, _, rfl, rfl, 1 + (n7 : Int), rfl, by omega, by omega, fun D hD => ?_⟩
    obtain ⟨c0, Bc0⟩ : ∃ c, BagAt H b c := B
    have B5c : BagAt H5 b c0 := g5 _ ((g3 _ (g2 _ (Bc0.new npw).1)).new nt).1
    obtain ⟨B5n, Db, Dc⟩ := BagAt.new (o := .lst []) B5c hD
    have Dw : D ≠ pw := (ne_of_none ew5 hD).symm
    have free : ∀ a o, H a = some o → a ≠ b → a ≠ D := fun a o e n => ne_of_none (k05 a o n e) hD
    refine lc_range (lo := 0) (n := (1 + (n7 : Int)).toNat) (fun i H' => BagAt H' b c0 ∧ Keep b H H' ∧ H' pw = some (.lst (WS.map V.str)) ∧ ∃ cs : List Nat, cs.length = i ∧ (∀ c ∈ cs, c ∈ abc.cps.toList) ∧ H' D = some (.lst ((cs.map one).map V.str)))
      ⟨B5n, k05.trans (Keep.new hD), by rw [upd_ne Dw.symm]; exact ew5, [], rfl, fun _ h => absurd h List.not_mem_nil, upd_same⟩ ?_ ?_
    · rintro i H' hi ⟨B', k', ew', cs, cl, ca, eD⟩
      refine ⟨rfl, _, rfl, _, rfl, b, 26, rfl, B'.bag, by decide, by decide, fun r H6 h6 B6 k6 g6 => ?_⟩
      have hl : r < abc.cps.toList.length := by rw [len_list, abc_len]; omega
      have ec := List.getElem?_eq_getElem hl
      refine ⟨abc, r, _, rfl, rfl, line300 (by rw [abc_len]; decide), atI_nat ec, _, k6 _ _ Db eD, ?_, (g6 _ B').put Db Dc, fun a o n e => ?_, ?_, cs ++ [abc.cps.toList[r]], by simp [cl], ?_, ?_⟩
      · rw [List.length_map, List.length_map]
        exact small1000 (by omega)
      · rw [upd_ne (free a o e n)]
        exact k6 a o n (k' a o n e)
      · rw [upd_ne Dw.symm]
        exact k6 _ _ pwb ew'
      · intro c hc
        rcases List.mem_append.mp hc with z | z
        · exact ca c z
        · rw [List.mem_singleton.mp z]
          exact abc_asc _ (List.getElem_mem hl)
      · rw [upd_same, List.map_append, List.map_append]
        rfl
    · rintro H6 ⟨B6, k6, ew6, cs, cl, ca, eD⟩
      have cl8 : cs.length ≤ 7 := by omega
      refine ⟨_, D, cs.map one, rfl, rfl, .inl (SqL.of eD), ?_, ?_⟩
      · rw [sum_ones, List.length_map]
        have e0 : ("" : Str).length = 0 := by decide +kernel
        rw [e0]
        omega
      rw [TL.join_eq, join_ones]
      obtain ⟨bs, ebs⟩ : ∃ bs : Str, bs = ⟨cs.toArray⟩ := ⟨_, rfl⟩
      have bl : bs.length = cs.length := by rw [ebs]; simp [Str.length]
      have ba : asc bs := by
        rw [ebs]
        intro c hc
        exact ca c (by simpa using hc)
      rw [← ebs]
      refine ⟨_, rfl, _, rfl, bs, rfl, line300 (by omega), _, _, rfl, rfl, b, (bs.length : Int) + 1, rfl, B6.bag, by omega, by omega, fun at_ H7 h7 B7 k7 g7 => ?_⟩
      have k07 := k6.trans k7
      have ew7 := k7 _ _ pwb ew6
      have B7c := g7 _ B6
      refine ⟨_, rfl, rfl, _, rfl, ite2 (fun e => ?_) (fun e => ?_)⟩
      · refine ⟨_, rfl, _, rfl, _, rfl, pw, _, rfl, SqL.of ew7, fun x1 n1 => ?_⟩
        have x1w : pw ≠ x1 := ne_of_none ew7 n1
        refine ⟨_, rfl, _, rfl, _, rfl, pw, _, rfl, SqL.of (by rw [upd_ne x1w]; exact ew7), fun x2 n2 => ?_⟩
        have x12 : x1 ≠ x2 := ne_of_none upd_same n2
        refine ⟨x1, x2, _, _, rfl, rfl, by rw [upd_ne x12]; exact upd_same, upd_same, ?_, fun x3 n3 => ?_⟩
        · rw [cut_map, cut_map, List.length_map, List.length_map, List.length_take, List.length_take, List.length_drop, List.length_drop]
          simp only [HT.sIx_none, HT.sIx_nat]
          exact line300 (by omega)
        refine ⟨_, rfl, _, rfl, x3, _, rfl, SqL.of upd_same, fun x4 n4 m4 => ?_⟩
        obtain ⟨zs, ez, zl, zm, zn⟩ := tops WS tu m (by omega)
        rw [ez]
        have K3 := (((Keep.new (b := b) (o := .lst (cutV (WS.map V.str) (some (tu : Int)) none)) n1).trans (Keep.new n2)).trans (Keep.new n3)).trans (Keep.new (o := .lst (zs.map V.str)) n4)
        obtain ⟨C1, _⟩ := B7c.new n1
        obtain ⟨C2, _⟩ := C1.new n2
        obtain ⟨C3, _⟩ := C2.new n3
        obtain ⟨C4, y1, _⟩ := C3.new (o := .lst (zs.map V.str)) n4
        exact q x4 zs _ upd_same zl y1 m4 (fun z h => nW z (zm z h)) (zn dW) ⟨fun h _ => zW (zm _ h), fun h _ => yW (zm _ h)⟩ C4.bag (k07.trans K3) (fun c hc => by rw [BagAt.uniq Bc0 hc]; exact C4)
      · refine ⟨_, rfl, rfl, _, rfl, ite2 (fun e => ?_) (fun e => ?_)⟩
        · refine ⟨_, rfl, _, rfl, by omega, by omega, fun G hG mG => ?_⟩
          obtain ⟨C7, Gb, Gc⟩ := BagAt.new (o := .lst []) B7c hG
          have free2 : ∀ a o, H a = some o → a ≠ b → a ≠ G := fun a o e n => ne_of_none (k07 a o n e) hG
          refine lc_range (lo := 0) (n := ((m : Int)).toNat) (fun i H' => BagAt H' b c0 ∧ Keep b H H' ∧ ∃ zs : List Str, zs.length = i ∧ (∀ z ∈ zs, NmOk z) ∧ zs = (List.range i).map (fun j => one (ltr tu j)) ∧ H' G = some (.lst (zs.map V.str)))
            ⟨C7, k07.trans (Keep.new hG), [], rfl, fun _ h => absurd h List.not_mem_nil, rfl, upd_same⟩ ?_ ?_
          · rintro i H' hi ⟨B', k', zs, zl, zo, zr, eG⟩
            obtain ⟨r, er, r1⟩ := modN (a := (tu : Int) + 3 * (0 + (i : Int))) (m := 26) (by omega) (by decide)
            have hl : r < abc.cps.toList.length := by rw [len_list, abc_len]; omega
            have ec := List.getElem?_eq_getElem hl
            have el := ltr_at er hl
            refine ⟨rfl, _, rfl, _, rfl, _, rfl, _, _, rfl, rfl, .inl ⟨by decide, by decide⟩, _, _, rfl, rfl, .inl ⟨_, rfl, _, _, rfl, rfl, nz26, abc, _, _, rfl, rfl, line300 (by rw [abc_len]; decide), by rw [er]; exact atI_nat ec, ?_⟩⟩
            refine ⟨_, eG, ?_, B'.put Gb Gc, fun a o n e => ?_, zs ++ [one (abc.cps.toList[r])], by simp [zl], ?_, ?_, ?_⟩
            · rw [List.length_map]
              exact small1000 (by omega)
            · rw [upd_ne (free2 a o e n)]
              exact k' a o n e
            · intro z hz
              rcases List.mem_append.mp hz with y | y
              · exact zo z y
              · rw [List.mem_singleton.mp y]
                exact ⟨by show 1 ≤ 1; decide, by show 1 ≤ 8; decide, asc_one abc_asc ec⟩
            · rw [zr, List.range_succ, List.map_append, el]
              rfl
            · rw [upd_same, List.map_append]
              rfl
          · rintro H8 ⟨B8, k8, zs, zl, zo, zr, eG⟩
            refine q G zs H8 eG (by omega) Gb mG zo ?_ ?_ B8.bag k8 (fun c hc => by rw [BagAt.uniq Bc0 hc]; exact B8)
            · rw [zr]
              exact nodup_of _ _ fun i hi j hj e => ltr_inj tu (by omega) i (by omega) j (by omega) (by simpa [one] using e)
            · constructor
              · intro hz _
                rw [zr] at hz
                obtain ⟨j, _, e⟩ := List.mem_map.mp hz
                have := congrArg Str.length e
                exact absurd this (by show ¬ (1 = Str.length "zzzzzzzz"); decide +kernel)
              · intro hz _
                rw [zr] at hz
                obtain ⟨j, _, e⟩ := List.mem_map.mp hz
                have := congrArg Str.length e
                exact absurd this (by show ¬ (1 = Str.length "yyyyyyyy"); decide +kernel)
        · refine ⟨_, rfl, _, rfl, by omega, by omega, fun G hG mG => ?_⟩
          obtain ⟨C7, Gb, Gc⟩ := BagAt.new (o := .lst []) B7c hG
          have free2 : ∀ a o, H a = some o → a ≠ b → a ≠ G := fun a o e n => ne_of_none (k07 a o n e) hG
          refine lc_range (lo := 0) (n := ((m : Int)).toNat) (fun i H' => BagAt H' b c0 ∧ Keep b H H' ∧ ∃ zs : List Str, zs.length = i ∧ (∀ z ∈ zs, NmOk z) ∧ zs = (List.range i).map (fun j => cutS bs none (some (at_ : Int)) ++ ⟨#[ltr tu j]⟩ ++ cutS bs (some (at_ : Int)) none) ∧ H' G = some (.lst (zs.map V.str)))
            ⟨C7, k07.trans (Keep.new hG), [], rfl, fun _ h => absurd h List.not_mem_nil, rfl, upd_same⟩ ?_ ?_
          · rintro i H' hi ⟨B', k', zs, zl, zo, zr, eG⟩
            obtain ⟨r, er, r1⟩ := modN (a := (tu : Int) + 3 * (0 + (i : Int))) (m := 26) (by omega) (by decide)
            have hl : r < abc.cps.toList.length := by rw [len_list, abc_len]; omega
            have ec := List.getElem?_eq_getElem hl
            have el := ltr_at er hl
            have l1 : (⟨#[abc.cps.toList[r]]⟩ : Str).length = 1 := rfl
            have c1 := cutS_length bs none (some (at_ : Int))
            have c2 := cutS_length bs (some (at_ : Int)) none
            refine ⟨rfl, _, rfl, _, rfl, _, rfl, bs, rfl, line300 (by omega), ?_⟩
            refine ⟨_, rfl, _, rfl, _, rfl, _, _, rfl, rfl, .inl ⟨by decide, by decide⟩, _, _, rfl, rfl, .inl ⟨_, rfl, _, _, rfl, rfl, nz26, abc, _, _, rfl, rfl, line300 (by rw [abc_len]; decide), by rw [er]; exact atI_nat ec, ?_⟩⟩
            refine ⟨_, _, rfl, rfl, line300 (by rw [l1]; omega), _, rfl, _, rfl, _, rfl, bs, rfl, line300 (by omega), _, _, rfl, rfl, line300 (by rw [strLen_append, l1]; omega), ?_⟩
            refine ⟨_, eG, ?_, B'.put Gb Gc, fun a o n e => ?_, zs ++ [cutS bs none (some (at_ : Int)) ++ ⟨#[abc.cps.toList[r]]⟩ ++ cutS bs (some (at_ : Int)) none], by simp [zl], ?_, ?_, ?_⟩
            · rw [List.length_map]
              exact small1000 (by omega)
            · rw [upd_ne (free2 a o e n)]
              exact k' a o n e
            · intro z hz
              rcases List.mem_append.mp hz with y | y
              · exact zo z y
              · rw [List.mem_singleton.mp y]
                have cp := cut_parts bs at_
                exact ⟨by rw [strLen_append, strLen_append, l1]; omega, by rw [strLen_append, strLen_append, l1]; omega, asc_add (asc_add (asc_cut ba _ _) (asc_one abc_asc ec)) (asc_cut ba _ _)⟩
            · rw [zr, List.range_succ, List.map_append, el]
              rfl
            · rw [upd_same, List.map_append]
              rfl
          · rintro H8 ⟨B8, k8, zs, zl, zo, zr, eG⟩
            refine q G zs H8 eG (by omega) Gb mG zo ?_ ?_ B8.bag k8 (fun c hc => by rw [BagAt.uniq Bc0 hc]; exact B8)
            · rw [zr]
              exact nodup_of _ _ fun i hi j hj e => ltr_inj tu (by omega) i (by omega) j (by omega) (append_mid e)
            · have cp := cut_parts bs at_
              constructor
              · intro h1 h2
                rw [zr] at h1 h2
                obtain ⟨j1, _, e1⟩ := List.mem_map.mp h1
                obtain ⟨j2, _, e2⟩ := List.mem_map.mp h2
                exact zq_mid (p := 122) (q := 113) (by decide +kernel) (by decide +kernel) (by decide) (by omega) e1.symm e2.symm
              · intro h1 h2
                rw [zr] at h1 h2
                obtain ⟨j1, _, e1⟩ := List.mem_map.mp h1
                obtain ⟨j2, _, e2⟩ := List.mem_map.mp h2
                exact zq_mid (p := 121) (q := 114) (by decide +kernel) (by decide +kernel) (by decide) (by omega) e1.symm e2.symm
end
end Fv


set_option Elab.async false
set_option linter.all false
set_option maxRecDepth 100000
set_option maxHeartbeats 4000000
namespace Fv
open PySem PySem.Spec PyProof.Rows L2
def strS : PyData → Str
  | .str z => z
  | _ => ""
def namesD (d : PyData) : Bool := rowD d && (itemsD d).all nameD && decide ((itemsD d).map strS).Nodup
theorem int_len {n m : Nat} : decide (V.int (n : Int) = V.int (m : Int)) = decide (n = m) := by
  rw [Bool.eq_iff_iff]
  simp
  omega
theorem str_dec {x y : Str} : decide (V.str x = V.str y) = decide (x = y) := by
  rw [Bool.eq_iff_iff]
  simp
theorem name_str {d : PyData} (h : nameD d = true) : ∃ z, d = .str z := by
  cases d <;> first | exact ⟨_, rfl⟩ | cases h
/-- numbers that are drawn, few parts -/
theorem okAll.snoc {d : PyData} (h : okD d) : ∀ {ds : List PyData}, okAll ds → okAll (ds ++ [d])
  | [], _ => ⟨h, True.intro⟩
  | _ :: _, g => ⟨g.1, okAll.snoc h g.2⟩
theorem abc_small : ∀ c ∈ abc.cps.toList, c < 128 := by decide +kernel
theorem NmOk.ok {z : Str} (h : NmOk z) : okD (.str z) := ⟨by have := h.2.1; omega, fun c hc => abc_small c (h.2.2 c hc)⟩
theorem src_ok {y : Str} (h : y = "" ∨ NmOk y) : okD (.str y) := by
  rcases h with rfl | h
  · exact ⟨by decide, by decide⟩
  · exact h.ok
theorem src_name {y : Str} (h : y = "" ∨ NmOk y) : sourceD (.str y) = true := by
  rcases h with rfl | hy
  · rfl
  · show (nameS y || _) = true
    rw [hy.name]
    rfl
theorem strs_perm {ms : List V} {ys : List Str} (h : ms.Perm (ys.map V.str)) : ∃ zs : List Str, ms = zs.map V.str ∧ zs.Perm ys := by
  let f : V → Str := fun v => match v with | .str z => z | _ => ""
  refine ⟨ms.map f, ?_, ?_⟩
  · rw [List.map_map]
    conv => lhs; rw [← List.map_id ms]
    refine List.map_congr_left fun v hv => ?_
    obtain ⟨z, _, rfl⟩ := List.mem_map.mp (h.mem_iff.mp hv)
    rfl
  · have := h.map f
    rw [List.map_map] at this
    have e : ys.map (f ∘ V.str) = ys := by
      conv => rhs; rw [← List.map_id ys]
      exact List.map_congr_left fun _ _ => rfl
    rwa [e] at this
section
variable {P : Program} {w : World} {K : PySem.W.Frag} {mg : Str → Option Value} {base : Heap}
end
end Fv


set_option Elab.async false
set_option linter.all false
set_option maxRecDepth 100000
set_option maxHeartbeats 4000000
namespace Fv
open PySem PySem.Spec PyProof.Rows L2
abbrev sAreNames : Stmt := top 16
abbrev sAreSettings : Stmt := top 9999
def dedup (l : List Str) : List Str := l.foldl insL []
theorem dedup_snoc (l : List Str) (x : Str) : dedup (l ++ [x]) = insL (dedup l) x := by
  unfold dedup
  rw [List.foldl_append]
  rfl
theorem insL_len (L : List Str) (k : Str) : (insL L k).length ≤ L.length + 1 := by
  unfold insL
  split
  · omega
  · rw [List.length_append]
    exact Nat.le_refl _
theorem fold_le : ∀ (l acc : List Str), (l.foldl insL acc).length ≤ acc.length + l.length
  | [], acc => by simp
  | x :: l, acc => by
    have h1 := fold_le l (insL acc x)
    have h2 := insL_len acc x
    rw [List.foldl_cons, List.length_cons]
    omega
theorem dedup_le (l : List Str) : (dedup l).length ≤ l.length := by
  have := fold_le l []
  rwa [List.length_nil, Nat.zero_add] at this
theorem fold_len : ∀ (l acc : List Str), acc.Nodup → ((l.foldl insL acc).length = acc.length + l.length ↔ (acc ++ l).Nodup)
  | [], acc, h => by simpa using h
  | x :: l, acc, h => by
    rw [List.foldl_cons]
    by_cases hx : x ∈ acc
    · have e : insL acc x = acc := by unfold insL; rw [if_pos hx]
      rw [e]
      have h1 := fold_le l acc
      constructor
      · intro z
        rw [z, List.length_cons] at h1
        omega
      · intro z
        rw [List.nodup_append] at z
        exact absurd rfl (z.2.2 x hx x List.mem_cons_self)
    · have e : insL acc x = acc ++ [x] := by unfold insL; rw [if_neg hx]
      have nd : (acc ++ [x]).Nodup := by
        rw [List.nodup_append]
        refine ⟨h, by simp, fun y hy z hz e => hx ?_⟩
        rw [List.mem_singleton.mp hz] at e
        exact e ▸ hy
      rw [e]
      have ih := fold_len l (acc ++ [x]) nd
      rw [List.length_append, List.append_assoc] at ih
      rw [List.length_cons]
      refine Iff.trans ?_ ih
      rw [show ([x] : List Str).length = 1 from rfl]
      constructor <;> intro z <;> omega
theorem dedup_len (l : List Str) : (dedup l).length = l.length ↔ l.Nodup := by
  have := fold_len l [] List.nodup_nil
  rwa [List.length_nil, Nat.zero_add, List.nil_append] at this
theorem dedup_dec {l : List Str} {n : Nat} (h : n = l.length) : decide (V.int ((dedup l).length : Int) = V.int (n : Int)) = decide l.Nodup := by
  rw [int_len, Bool.eq_iff_iff, decide_eq_true_eq, decide_eq_true_eq, h]
  exact dedup_len l
theorem scan4096 {n : Nat} (h : n ≤ 60) : n + 1 < scanBound := by
  have : scanBound = 4096 := rfl
  omega
section
variable {P : Program} {w : World} {K : PySem.W.Frag} {mg : Str → Option Value} {base : Heap} {C : Addr}
theorem scAn : FnScope ["thing", "item"] ["thing"] (defScope sAreNames) := ⟨rfl, rfl, rfl, by decide +kernel, rfl, by decide +kernel, by decide +kernel⟩
theorem ok_arenames {f fR fN : Addr} {fd fdR fdN : FuncData} (F : Fun K "are_names" "are_names" sAreNames f fd)
    (GR : FnOk P w K mg base CX0 1 fR fdR ["thing"] (spX C rowD)) (bR : Binds K fdR ["thing"] []) (mR : mg "is_row" = some (.ref fR)) (kR : PySem.W.keepIn K (.ref fR) = true)
    (GN : FnOk P w K mg base CX0 1 fN fdN ["thing"] (spX C nameD)) (bN : Binds K fdN ["thing"] []) (mN : mg "is_name" = some (.ref fN)) (kN : PySem.W.keepIn K (.ref fN) = true)
    (ma : mg "all" = none) (ml : mg "len" = none) : FnOk P w K mg base CX0 2 f fd ["thing"] (spX C namesD) := by
  refine F.ok scAn (fun vs H Q E h => ?_) (fun cdv A outer s H vs Q E hr h => ?_)
  · obtain ⟨b, v, d, rfl, _⟩ := h
    rfl
  · obtain ⟨b, v, d, rfl, hd, hs, hb, q⟩ := h
    refine ⟨_, pss_cons (ps_if (PW.pt (pw_or (pt_not (pt_val (pe_call GR hr (by rfl) mR kR bR .nil pass0 (pa_cons (pv 0) pa_nil)))) (pw_or1 (pt_not (pt_val (pe_callB (cr_all rfl) (by rfl) ma (by decide +kernel) (pa_cons
        (pe_lc (own := [("item", 1)]) (g := gName 1) (tt := tYes) rfl scAn.nd (pi_row (pv 0)) (blkOk_by (N := ["thing", "item"]) (sc := defScope sAreNames) (by decide +kernel))
        (fun _ _ _ _ _ => pg_name (i := 1) scAn.nd rfl (Or.inl rfl)) (fun _ _ _ _ _ => pts_nil) (fun _ _ _ _ _ => pe_call GN hr (by rfl) mN kN bN .nil pass0 (pa_cons (pv 1) pa_nil))) pa_nil)))))))
        (pss_one (ps_ret pe_bl)) pss_nil)
      (pss_one (ps_ret (pe_cmpR op_eq (pe_callB (r := rLenX P w) call_lenX (by rfl) ml PySem.boot_len (pa_cons
        (pe_scX (own := [("item", 1)]) (g := gName 1) (tt := tYes) rfl scAn.nd (pi_row (pv 0)) (blkOk_by (N := ["thing", "item"]) (sc := defScope sAreNames) (by decide +kernel))
        (fun _ _ _ _ _ => pg_name (i := 1) scAn.nd rfl (Or.inl rfl)) (fun _ _ _ _ _ => pts_nil) (fun _ _ _ _ _ => pv 1)) pa_nil)) (pe_callB call_len_seq (by rfl) ml PySem.boot_len (pa_cons (pv 0) pa_nil)) (nomark _)))), ?_⟩
    have e : namesD d = (rowD d && (itemsD d).all nameD && decide ((itemsD d).map strS).Nodup) := rfl
    rw [e] at q
    refine ⟨_, rfl, b, v, d, rfl, hd, hs, hb, fun H1 s1 => ⟨_, rfl, ?_⟩⟩
    cases h0 : rowD d with
    | false =>
      rw [h0] at q
      exact q H1 s1
    | true =>
      rw [h0, Bool.true_and] at q
      have hd1 : Dx C H1 b v d := hd.mono fun a o _ e => s1 a o e
      obtain ⟨a, xs, ds, rfl, hdd, hrow, hx⟩ := hd1.row_of (K := K) h0
      rw [rows_items hdd] at q
      obtain ⟨hl, hok⟩ := rows_ok hdd hs
      have hlen := hx.len
      refine iteF ⟨_, rfl, a, xs, rfl, hrow, fun J G wk hG D hD => ?_⟩
      refine lc_it wk (fun i H' => Same H1 H' ∧ H' D = some (.lst ((ds.take i).map fun d => V.bl (nameD d)))) ⟨same_upd hD, upd_same⟩ (fun i H' _ h => hG H' h.1) ?_ ?_
      · rintro i x H' H2 hi ⟨s', e'⟩ ⟨rfl, hxi⟩
        obtain ⟨dx, hdi, hdx⟩ := hx.get hxi
        refine ⟨rfl, _, rfl, b, x, dx, rfl, hdx.mono fun c o _ e => s' c o e, hok.mem dx (List.mem_of_getElem? hdi), there (s1.trans s') hb, fun H3 s3 => ⟨_, s3 _ _ e', ?_, fun c o e => ?_, ?_⟩⟩
        · rw [List.length_map, List.length_take]
          exact small60 (by omega)
        · rw [upd_ne (ne_of_none e hD)]
          exact s3 _ _ (s' c o e)
        · rw [upd_same, take_map_snoc hdi]
      · rintro H2 ⟨s2, e2⟩
        rw [hlen, List.take_length] at e2
        refine ⟨D, ds.map nameD, rfl, SqL.of (by rw [List.map_map]; exact e2), ?_⟩
        rw [List.all_map]
        refine ⟨ds.all nameD, rfl, ?_⟩
        cases h2 : ds.all nameD with
        | false =>
          rw [h2] at q
          exact iteT (q H2 (s1.trans s2))
        | true =>
          rw [h2, Bool.true_and] at q
          refine iteF ⟨_, rfl, a, xs, rfl, hrow.imp (fun h => h.same s2) (fun h => h.same s2), fun J2 G2 wk2 hG2 D2 hD2 => ?_⟩
          refine sc_it wk2 (fun i H' => Same H2 H' ∧ H' D2 = some (TxtO P w D2 (dedup ((ds.take i).map strS)))) ⟨same_upd hD2, upd_same⟩ (fun i H' _ h => hG2 H' h.1) ?_ ?_
          · rintro i x H' H3 hi ⟨s', e'⟩ ⟨rfl, hxi⟩
            obtain ⟨dx, hdi, hdx⟩ := hx.get hxi
            obtain ⟨z, rfl⟩ := name_str (List.all_eq_true.mp h2 dx (List.mem_of_getElem? hdi))
            cases hdx
            refine ⟨rfl, _, rfl, z, _, rfl, e', ?_, fun c o e => ?_, ?_⟩
            · refine scan4096 (Nat.le_trans (dedup_le _) ?_)
              rw [List.length_map, List.length_take]
              omega
            · rw [upd_ne (ne_of_none e hD2)]
              exact s' c o e
            · rw [upd_same, take_map_snoc hdi, dedup_snoc]
              rfl
          · rintro H3 ⟨s3, e3⟩
            rw [hlen, List.take_length] at e3
            refine ⟨D2, _, rfl, e3, _, rfl, a, xs, rfl, ?_, rfl, ?_⟩
            · exact hrow.imp (fun h => (h.same s2).same s3) (fun h => (h.same s2).same s3)
            · rw [dedup_dec (by rw [hlen, List.length_map])]
              exact q H3 ((s1.trans s2).trans s3)
end
end Fv


/-! Shortest walks: a pure part, no program in it. Facts (x, y, c) as a list of triples; a walk of x to y goes along facts. -/
namespace Fv.M

set_option linter.unusedSectionVars false
variable {S : Type} [DecidableEq S]

abbrev Fa (S : Type) := List (S × S × Int)

/-- a walk from `x` to `z` of sum `c` and `n` facts, all whose points keep `A` -/
inductive Wk (F : Fa S) (A : S → Prop) : S → S → Int → Nat → Prop
  | nil {x} : A x → Wk F A x x 0 0
  | cons {x y z c d n} : (x, y, c) ∈ F → A x → Wk F A y z d n → Wk F A x z (c + d) (n + 1)

/-- a start keeps all facts -/
def Keeps (F : Fa S) (p : S → Int) : Prop := ∀ x y c, (x, y, c) ∈ F → p x - p y ≤ c

theorem Wk.pot {F : Fa S} {A : S → Prop} {p : S → Int} (K : Keeps F p) :
    ∀ {x y c n}, Wk F A x y c n → p x - p y ≤ c := by
  intro x y c n w
  induction w with
  | nil _ => omega
  | @cons x y z c d n h _ _ ih => have := K _ _ _ h; omega

theorem Wk.mono {F : Fa S} {A B : S → Prop} (h : ∀ x, A x → B x) :
    ∀ {x y c n}, Wk F A x y c n → Wk F B x y c n := by
  intro x y c n w
  induction w with
  | nil a => exact .nil (h _ a)
  | cons m a _ ih => exact .cons m (h _ a) ih

theorem Wk.at0 {F : Fa S} {A : S → Prop} : ∀ {x y c n}, Wk F A x y c n → A x := by
  intro x y c n w
  cases w with
  | nil a => exact a
  | cons _ a _ => exact a

theorem Wk.at1 {F : Fa S} {A : S → Prop} : ∀ {x y c n}, Wk F A x y c n → A y := by
  intro x y c n w
  induction w with
  | nil a => exact a
  | cons _ _ _ ih => exact ih

theorem Wk.app {F : Fa S} {A : S → Prop} : ∀ {x y c n} {z d m}, Wk F A x y c n → Wk F A y z d m → Wk F A x z (c + d) (n + m) := by
  intro x y c n z d m w v
  induction w with
  | nil _ => simpa using v
  | @cons x y z c d n h a _ ih =>
    have := Wk.cons h a (ih v)
    rw [Int.add_assoc, Nat.add_right_comm]; exact this

/-- the last visit of `x`: the walk stays away from it, or ends there, or leaves it for good -/
theorem Wk.last {F : Fa S} {A : S → Prop} {p : S → Int} (K : Keeps F p) (x : S) :
    ∀ {u y c n}, Wk F A u y c n →
      (Wk F (fun s => A s ∧ s ≠ x) u y c n) ∨ y = x ∨
      ∃ z e d m, (x, z, e) ∈ F ∧ Wk F (fun s => A s ∧ s ≠ x) z y d m ∧ p u - p x + e + d ≤ c := by
  intro u y c n w
  induction w with
  | @nil u a =>
    by_cases h : u = x
    · exact .inr (.inl h)
    · exact .inl (.nil ⟨a, h⟩)
  | @cons u v y c d n h a w ih =>
    rcases ih with ih | ih | ⟨z, e, d', m, hz, wz, hc⟩
    · by_cases hu : u = x
      · subst hu
        exact .inr (.inr ⟨v, c, d, n, h, ih, by omega⟩)
      · exact .inl (.cons h ⟨a, hu⟩ ih)
    · exact .inr (.inl ih)
    · refine .inr (.inr ⟨z, e, d', m, hz, wz, ?_⟩)
      have := K _ _ _ h
      omega

theorem Wk.inF {F : Fa S} {A : S → Prop} {x y : S} {c : Int} {n : Nat} (w : Wk F A x y c n) : A x ∧ A y := ⟨w.at0, w.at1⟩

/-- each walk has a short one that is no dearer: as many facts as there are points, less one -/
theorem Wk.short {F : Fa S} {p : S → Int} (K : Keeps F p) :
    ∀ (k : Nat) (V : List S), V.length ≤ k → ∀ {x y c n}, Wk F (fun s => s ∈ V) x y c n →
      ∃ c' n', Wk F (fun s => s ∈ V) x y c' n' ∧ c' ≤ c ∧ n' + 1 ≤ k := by
  intro k
  induction k with
  | zero =>
    intro V hV x y c n w
    have := w.at0
    cases V with
    | nil => cases this
    | cons => simp at hV
  | succ k ih =>
    intro V hV x y c n w
    by_cases hxy : y = x
    · subst hxy
      have := w.pot K
      exact ⟨0, 0, .nil w.at0, by omega, by omega⟩
    rcases w.last K x with h | h | ⟨z, e, d, m, hz, wz, hc⟩
    · exact absurd rfl h.at0.2
    · exact absurd h hxy
    · have hlen : (V.filter (fun s => decide (s ≠ x))).length ≤ k := by
        have h1 : (V.filter (fun s => decide (s ≠ x))).length < V.length := by
          have : ∀ (L : List S), x ∈ L → (L.filter (fun s => decide (s ≠ x))).length < L.length := by
            intro L hL
            induction L with
            | nil => cases hL
            | cons a t it =>
              by_cases ha : a = x
              · subst ha
                have := List.length_filter_le (fun s => decide (s ≠ a)) t
                simp only [List.filter_cons, ne_eq, not_true_eq_false, decide_false, List.length_cons, Bool.false_eq_true, if_false]
                simp only [ne_eq] at this
                omega
              · have hm : x ∈ t := by
                  cases hL with
                  | head => exact absurd rfl ha
                  | tail _ h => exact h
                have := it hm
                simp only [ne_eq] at this
                simp only [List.filter_cons, ne_eq, ha, not_false_eq_true, decide_true, if_true, List.length_cons]
                omega
          exact this V w.at0
        omega
      obtain ⟨c', n', w', hc', hn'⟩ := ih _ hlen (wz.mono (B := fun s => s ∈ V.filter (fun s => decide (s ≠ x)))
        (by intro s hs; simp only [List.mem_filter]; exact ⟨hs.1, by simp [hs.2]⟩))
      refine ⟨e + c', n' + 1, .cons hz w.at0 (w'.mono (by intro s hs; exact (List.mem_filter.1 hs).1)), by omega, by omega⟩

end Fv.M


/-! Two ways to the least sums, and that they come to the same (pure). -/
namespace Fv.M
set_option linter.unusedSectionVars false
variable {S : Type} [DecidableEq S]

abbrev Tb (S : Type) := S → S → Option Int

/-- what a table says of `x` and `y` is the least sum of walks, none if there is no walk -/
structure Lst (F : Fa S) (A : S → Prop) (x y : S) (o : Option Int) : Prop where
  there : ∀ g, o = some g → ∃ n, Wk F A x y g n
  least : ∀ c n, Wk F A x y c n → ∃ g, o = some g ∧ g ≤ c

theorem Lst.uniq {F : Fa S} {A : S → Prop} {x y : S} {o o' : Option Int} (h : Lst F A x y o) (h' : Lst F A x y o') : o = o' := by
  cases o with
  | none =>
    cases o' with
    | none => rfl
    | some g =>
      obtain ⟨n, w⟩ := h'.there g rfl
      obtain ⟨g', e, _⟩ := h.least _ _ w
      cases e
  | some g =>
    obtain ⟨n, w⟩ := h.there g rfl
    obtain ⟨g', e', l'⟩ := h'.least _ _ w
    subst e'
    obtain ⟨n', w'⟩ := h'.there g' rfl
    obtain ⟨g2, e2, l2⟩ := h.least _ _ w'
    cases e2
    have : g = g' := by omega
    rw [this]

def put (T : Tb S) (x y : S) (c : Int) : Tb S := fun u v => if u = x ∧ v = y then some c else T u v

/-- one turn of the law's: the way over the fact (x, y, c) to `o` -/
def rx (T : Tb S) (x y : S) (c : Int) (o : S) : Tb S :=
  match T y o with
  | none => T
  | some b =>
    match T x o with
    | none => put T x o (b + c)
    | some a => if b + c < a then put T x o (b + c) else T

def pass (V : List S) (T : Tb S) (f : S × S × Int) : Tb S := V.foldl (fun T o => rx T f.1 f.2.1 f.2.2 o) T
def round (V : List S) (F : Fa S) (T : Tb S) : Tb S := F.foldl (pass V) T

/-- the second table is nowhere worse -/
def Bt (T T' : Tb S) : Prop := ∀ x y g, T x y = some g → ∃ g', T' x y = some g' ∧ g' ≤ g

theorem Bt.rfl' (T : Tb S) : Bt T T := fun _ _ g h => ⟨g, h, Int.le_refl _⟩
theorem Bt.trans {T T' T'' : Tb S} (h : Bt T T') (h' : Bt T' T'') : Bt T T'' := fun x y g e => by
  obtain ⟨g', e', l⟩ := h _ _ _ e
  obtain ⟨g'', e'', l'⟩ := h' _ _ _ e'
  exact ⟨g'', e'', by omega⟩

theorem rx_cases (T : Tb S) (x y : S) (c : Int) (o : S) :
    (T y o = none ∧ rx T x y c o = T) ∨
    ∃ b, T y o = some b ∧ ((rx T x y c o = put T x o (b + c) ∧ ∀ a, T x o = some a → b + c < a) ∨ (rx T x y c o = T ∧ ∃ a, T x o = some a ∧ a ≤ b + c)) := by
  unfold rx
  cases hb : T y o with
  | none => exact .inl ⟨rfl, rfl⟩
  | some b =>
    refine .inr ⟨b, rfl, ?_⟩
    cases ha : T x o with
    | none => exact .inl ⟨rfl, fun a e => by cases e⟩
    | some a =>
      by_cases h : b + c < a
      · exact .inl ⟨by simp only [h, if_true], fun a' e => by cases e; exact h⟩
      · exact .inr ⟨by simp only [h, if_false], a, rfl, by omega⟩

theorem rx_bt (T : Tb S) (x y : S) (c : Int) (o : S) : Bt T (rx T x y c o) := by
  intro u v g h
  rcases rx_cases T x y c o with ⟨_, e⟩ | ⟨b, hb, ⟨e, l⟩ | ⟨e, _⟩⟩
  · exact ⟨g, by rw [e]; exact h, Int.le_refl _⟩
  · rw [e]
    by_cases q : u = x ∧ v = o
    · rw [q.1, q.2] at h
      have := l _ h
      exact ⟨b + c, by simp only [put, q, and_self, if_true], by omega⟩
    · exact ⟨g, by simp only [put, q, if_false]; exact h, Int.le_refl _⟩
  · exact ⟨g, by rw [e]; exact h, Int.le_refl _⟩

theorem rx_hit {T : Tb S} {x y : S} {c : Int} {o : S} {b : Int} (hb : T y o = some b) : ∃ g, rx T x y c o x o = some g ∧ g ≤ b + c := by
  rcases rx_cases T x y c o with ⟨e, _⟩ | ⟨b', hb', ⟨e, l⟩ | ⟨e, a, ha, l⟩⟩
  · rw [hb] at e; cases e
  · rw [hb] at hb'; cases hb'
    exact ⟨b + c, by rw [e]; simp [put], Int.le_refl _⟩
  · rw [hb] at hb'; cases hb'
    exact ⟨a, by rw [e]; exact ha, l⟩

theorem rx_there {F : Fa S} {A : S → Prop} {T : Tb S} {x y : S} {c : Int} {o : S} (hF : (x, y, c) ∈ F) (hx : A x)
    (h : ∀ u v g, T u v = some g → ∃ n, Wk F A u v g n) : ∀ u v g, rx T x y c o u v = some g → ∃ n, Wk F A u v g n := by
  intro u v g
  rcases rx_cases T x y c o with ⟨_, e⟩ | ⟨b, hb, ⟨e, l⟩ | ⟨e, _⟩⟩
  · rw [e]; exact h u v g
  · rw [e]
    unfold put
    split
    · rename_i q
      intro e'
      cases e'
      rw [q.1, q.2]
      obtain ⟨n, w⟩ := h _ _ _ hb
      exact ⟨n + 1, by have := Wk.cons hF hx w; rwa [Int.add_comm] at this⟩
    · exact h u v g
  · rw [e]; exact h u v g

/-- the same for the folds -/
theorem foldl_bt {α : Type} (f : Tb S → α → Tb S) (hf : ∀ T a, Bt T (f T a)) : ∀ (L : List α) (T : Tb S), Bt T (L.foldl f T)
  | [], T => Bt.rfl' T
  | a :: L, T => (hf T a).trans (foldl_bt f hf L (f T a))

theorem foldl_all {α : Type} (P : Tb S → Prop) (f : Tb S → α → Tb S) :
    ∀ (L : List α) (T : Tb S), (∀ T a, a ∈ L → P T → P (f T a)) → P T → P (L.foldl f T)
  | [], _, _, h => h
  | a :: L, T, hf, h => foldl_all P f L (f T a) (fun T b hb => hf T b (List.mem_cons_of_mem _ hb)) (hf T a List.mem_cons_self h)

theorem pass_bt (V : List S) (T : Tb S) (f : S × S × Int) : Bt T (pass V T f) := foldl_bt _ (fun T o => rx_bt T _ _ _ o) V T
theorem round_bt (V : List S) (F : Fa S) (T : Tb S) : Bt T (round V F T) := foldl_bt _ (fun T f => pass_bt V T f) F T

theorem pass_hit (x y : S) (c : Int) (o : S) (b : Int) : ∀ (V : List S) (T : Tb S), o ∈ V → (∃ b', T y o = some b' ∧ b' ≤ b) → ∃ g, pass V T (x, y, c) x o = some g ∧ g ≤ b + c := by
  intro V
  induction V with
  | nil => intro T h; cases h
  | cons v V ih =>
    intro T h ⟨b', hb, l⟩
    by_cases e : v = o
    · subst e
      obtain ⟨g, hg, hl⟩ := rx_hit (x := x) (c := c) hb
      obtain ⟨g', hg', hl'⟩ := foldl_bt (fun T o => rx T x y c o) (fun T o => rx_bt T _ _ _ o) V _ _ _ _ hg
      exact ⟨g', hg', by omega⟩
    · have hm : o ∈ V := by
        cases h with
        | head => exact absurd rfl e
        | tail _ h => exact h
      obtain ⟨b2, h2, l2⟩ := rx_bt T x y c v _ _ _ hb
      exact ih _ hm ⟨b2, h2, by omega⟩

theorem round_hit {V : List S} (x y : S) (c : Int) (o : S) (ho : o ∈ V) (b : Int) : ∀ (F : Fa S) (T : Tb S), (x, y, c) ∈ F → (∃ b', T y o = some b' ∧ b' ≤ b) →
    ∃ g, round V F T x o = some g ∧ g ≤ b + c := by
  intro F
  induction F with
  | nil => intro T h; cases h
  | cons f F ih =>
    intro T h hb
    by_cases e : f = (x, y, c)
    · subst e
      obtain ⟨g, hg, hl⟩ := pass_hit x y c o b V T ho hb
      obtain ⟨g', hg', hl'⟩ := foldl_bt (pass V) (fun T f => pass_bt V T f) F _ _ _ _ hg
      exact ⟨g', hg', by omega⟩
    · have hm : (x, y, c) ∈ F := by
        cases h with
        | head => exact absurd rfl e
        | tail _ h => exact h
      obtain ⟨b', hb', l⟩ := hb
      obtain ⟨b2, h2, l2⟩ := pass_bt V T f _ _ _ hb'
      exact ih _ hm ⟨b2, h2, by omega⟩

/-- `n` rounds -/
def rounds (V : List S) (F : Fa S) : Nat → Tb S → Tb S
  | 0, T => T
  | n + 1, T => round V F (rounds V F n T)

def diag (V : List S) : Tb S := fun x y => if x = y ∧ x ∈ V then some 0 else none

theorem rounds_there {V : List S} {F : Fa S} (hF : ∀ x y c, (x, y, c) ∈ F → x ∈ V) : ∀ n u v g, rounds V F n (diag V) u v = some g → ∃ m, Wk F (fun s => s ∈ V) u v g m := by
  intro n
  induction n with
  | zero =>
    intro u v g h
    simp only [rounds, diag] at h
    split at h
    · rename_i e
      cases h
      rw [← e.1]; exact ⟨0, .nil e.2⟩
    · cases h
  | succ n ih =>
    show ∀ u v g, round V F (rounds V F n (diag V)) u v = some g → _
    refine foldl_all (fun T => ∀ u v g, T u v = some g → ∃ m, Wk F (fun s => s ∈ V) u v g m) (pass V) F _ ?_ ih
    intro T f hf hT
    obtain ⟨x, y, c⟩ := f
    exact foldl_all (fun T => ∀ u v g, T u v = some g → ∃ m, Wk F (fun s => s ∈ V) u v g m) _ V _
      (fun T o _ hT => rx_there hf (hF _ _ _ hf) hT) hT

theorem rounds_up {V : List S} {F : Fa S} (T : Tb S) (n : Nat) : ∀ k, Bt (rounds V F n T) (rounds V F (n + k) T)
  | 0 => Bt.rfl' _
  | k + 1 => (rounds_up T n k).trans (round_bt _ _ _)

theorem rounds_least {V : List S} {F : Fa S} : ∀ {x y c n}, Wk F (fun s => s ∈ V) x y c n → ∃ g, rounds V F n (diag V) x y = some g ∧ g ≤ c := by
  intro x y c n w
  induction w with
  | @nil x a => exact ⟨0, by simp [rounds, diag, a], Int.le_refl _⟩
  | @cons x y z c d n h a w ih =>
    obtain ⟨g, hg, hl⟩ := round_hit x y c z w.at1 d F _ h ih
    exact ⟨g, hg, by omega⟩

/-- the law's table: as many rounds as there are points are enough -/
theorem rounds_lst {V : List S} {F : Fa S} {p : S → Int} (K : Keeps F p) (hF : ∀ x y c, (x, y, c) ∈ F → x ∈ V)
    {n : Nat} (hn : V.length ≤ n) (x y : S) : Lst F (fun s => s ∈ V) x y (rounds V F n (diag V) x y) where
  there := rounds_there hF n x y
  least := fun c m w => by
    obtain ⟨c', n', w', hc, hl⟩ := w.short K V.length V (Nat.le_refl _)
    obtain ⟨g, hg, hg'⟩ := rounds_least w'
    obtain ⟨k, hk⟩ : ∃ k, n = n' + k := ⟨n - n', by omega⟩
    obtain ⟨g2, hg2, hl2⟩ := rounds_up (V := V) (F := F) (diag V) n' k _ _ _ hg
    exact ⟨g2, by rw [hk]; exact hg2, by omega⟩

end Fv.M


/-! The program's way: a table closed point by point (pure). -/
namespace Fv.M
set_option linter.unusedSectionVars false
variable {S : Type} [DecidableEq S]

/-- `T` holds the tightest of the facts of `L` about unlike sources -/
structure Tg (L : Fa S) (T : Tb S) : Prop where
  off : ∀ x, T x x = none
  from_ : ∀ x y g, T x y = some g → (x, y, g) ∈ L
  le : ∀ x y c, (x, y, c) ∈ L → x ≠ y → ∃ g, T x y = some g ∧ g ≤ c

/-- one turn of the loop that makes it -/
def tgStep (T : Tb S) (f : S × S × Int) : Tb S :=
  if f.1 ≠ f.2.1 ∧ (∀ g, T f.1 f.2.1 = some g → f.2.2 < g) then put T f.1 f.2.1 f.2.2 else T

theorem Tg.nil : Tg ([] : Fa S) (fun _ _ => none) := ⟨fun _ => rfl, fun _ _ _ h => (by cases h), fun _ _ _ h => (by cases h)⟩

theorem Tg.step {L : Fa S} {T : Tb S} (h : Tg L T) (f : S × S × Int) : Tg (L ++ [f]) (tgStep T f) := by
  obtain ⟨x, y, c⟩ := f
  unfold tgStep
  dsimp only
  by_cases q : x ≠ y ∧ (∀ g, T x y = some g → c < g)
  · rw [if_pos q]
    refine ⟨fun u => ?_, fun u v g e => ?_, fun u v g m n => ?_⟩
    · unfold put
      split
      · rename_i e; exact absurd (e.1.symm.trans e.2) q.1
      · exact h.off u
    · unfold put at e
      split at e
      · rename_i r; cases e; rw [r.1, r.2]; simp
      · exact List.mem_append_left _ (h.from_ _ _ _ e)
    · unfold put
      by_cases r : u = x ∧ v = y
      · rw [if_pos r]
        refine ⟨c, rfl, ?_⟩
        rcases List.mem_append.1 m with m | m
        · obtain ⟨g', e', l'⟩ := h.le _ _ _ m n
          rw [r.1, r.2] at e'
          have := q.2 _ e'
          omega
        · simp only [List.mem_singleton, Prod.mk.injEq] at m
          omega
      · rw [if_neg r]
        rcases List.mem_append.1 m with m | m
        · exact h.le _ _ _ m n
        · simp only [List.mem_singleton, Prod.mk.injEq] at m
          exact absurd ⟨m.1, m.2.1⟩ r
  · rw [if_neg q]
    refine ⟨h.off, fun u v g e => List.mem_append_left _ (h.from_ _ _ _ e), fun u v g m n => ?_⟩
    rcases List.mem_append.1 m with m | m
    · exact h.le _ _ _ m n
    · simp only [List.mem_singleton, Prod.mk.injEq] at m
      obtain ⟨rfl, rfl, rfl⟩ := m
      cases ht : T u v with
      | none => exact absurd ⟨n, fun g' e' => by rw [ht] at e'; cases e'⟩ q
      | some a =>
        refine ⟨a, rfl, ?_⟩
        by_cases l : a ≤ g
        · exact l
        · exact absurd ⟨n, fun g' e' => by rw [ht] at e'; cases e'; omega⟩ q

/-- the list that a turn of the closing hands on: what the table holds, and the ways over `m` -/
structure Over (T : Tb S) (m : S) (L : Fa S) : Prop where
  from_ : ∀ x y c, (x, y, c) ∈ L → T x y = some c ∨ ∃ a b, T x m = some a ∧ T m y = some b ∧ c = a + b
  own : ∀ x y c, T x y = some c → (x, y, c) ∈ L
  way : ∀ x y a b, T x m = some a → T m y = some b → (x, y, a + b) ∈ L

/-- what stays while the table is closed -/
structure Cl (F : Fa S) (p : S → Int) (M : List S) (T : Tb S) : Prop where
  off : ∀ x, T x x = none
  pot : ∀ x y c, T x y = some c → p x - p y ≤ c
  walk : ∀ x y c, T x y = some c → ∃ n, Wk F (fun _ => True) x y c n
  fact : ∀ x y c, (x, y, c) ∈ F → x ≠ y → ∃ g, T x y = some g ∧ g ≤ c
  tri : ∀ m ∈ M, ∀ x y a b, T x m = some a → T m y = some b → x ≠ y → ∃ g, T x y = some g ∧ g ≤ a + b
  ends : ∀ x y c, T x y = some c → (∃ y' c', (x, y', c') ∈ F ∧ x ≠ y') ∧ ∃ x' c', (x', y, c') ∈ F ∧ x' ≠ y

theorem Cl.first {F : Fa S} {p : S → Int} (K : Keeps F p) {T : Tb S} (h : Tg F T) : Cl F p [] T where
  off := h.off
  pot := fun x y c e => K _ _ _ (h.from_ _ _ _ e)
  walk := fun x y c e => ⟨1, by have := Wk.cons (A := fun _ => True) (h.from_ _ _ _ e) trivial (.nil trivial); simpa using this⟩
  fact := h.le
  tri := fun m hm => by cases hm
  ends := fun x y c e => by
    have hxy : x ≠ y := fun q => by rw [q, h.off] at e; cases e
    exact ⟨⟨y, c, h.from_ _ _ _ e, hxy⟩, ⟨x, c, h.from_ _ _ _ e, hxy⟩⟩

/-- no fact of the next list is about one source and below 0 -/
theorem Cl.fine {F : Fa S} {p : S → Int} {M : List S} {T : Tb S} (h : Cl F p M T) {m : S} {L : Fa S} (o : Over T m L) :
    Keeps L p := fun x y c hm => by
  rcases o.from_ _ _ _ hm with e | ⟨a, b, ha, hb, e⟩
  · exact h.pot _ _ _ e
  · have := h.pot _ _ _ ha; have := h.pot _ _ _ hb; omega

theorem Cl.next {F : Fa S} {p : S → Int} {M : List S} {T T' : Tb S} (h : Cl F p M T) {m : S} {L : Fa S} (o : Over T m L) (t : Tg L T') :
    Cl F p (m :: M) T' := by
  have case' : ∀ x y c, T' x y = some c → T x y = some c ∨ ∃ a b, T x m = some a ∧ T m y = some b ∧ c = a + b :=
    fun x y c e => o.from_ _ _ _ (t.from_ _ _ _ e)
  have low : ∀ x y c, T x y = some c → ∃ g, T' x y = some g ∧ g ≤ c := fun x y c e =>
    t.le _ _ _ (o.own _ _ _ e) (fun q => by rw [q, h.off] at e; cases e)
  have lowM : ∀ x y a b, T x m = some a → T m y = some b → x ≠ y → ∃ g, T' x y = some g ∧ g ≤ a + b := fun x y a b ha hb n =>
    t.le _ _ _ (o.way _ _ _ _ ha hb) n
  have round0 : ∀ x a b, T x m = some a → T m x = some b → 0 ≤ a + b := fun x a b ha hb => by
    have := h.pot _ _ _ ha; have := h.pot _ _ _ hb; omega
  refine ⟨t.off, fun x y c e => (h.fine o) _ _ _ (t.from_ _ _ _ e), fun x y c e => ?_, fun x y c hm n => ?_, ?_, fun x y c e => ?_⟩
  · rcases case' _ _ _ e with e | ⟨a, b, ha, hb, e⟩
    · exact h.walk _ _ _ e
    · obtain ⟨n1, w1⟩ := h.walk _ _ _ ha
      obtain ⟨n2, w2⟩ := h.walk _ _ _ hb
      exact ⟨n1 + n2, by rw [e]; exact w1.app w2⟩
  · obtain ⟨g, e, l⟩ := h.fact _ _ _ hm n
    obtain ⟨g', e', l'⟩ := low _ _ _ e
    exact ⟨g', e', by omega⟩
  · intro k hk x y a b ha hb hxy
    -- the new point: nothing goes over it to itself
    by_cases hkm : k = m
    · subst hkm
      have ha' : T x k = some a := by
        rcases case' _ _ _ ha with e | ⟨_, b', _, hb', _⟩
        · exact e
        · rw [h.off] at hb'; cases hb'
      have hb' : T k y = some b := by
        rcases case' _ _ _ hb with e | ⟨a', _, ha', _, _⟩
        · exact e
        · rw [h.off] at ha'; cases ha'
      exact lowM _ _ _ _ ha' hb' hxy
    have hk' : k ∈ M := by
      cases hk with
      | head => exact absurd rfl hkm
      | tail _ h => exact h
    have tri := h.tri k hk'
    rcases case' _ _ _ ha with ea | ⟨a1, a2, ha1, ha2, ea⟩
    · rcases case' _ _ _ hb with eb | ⟨b1, b2, hb1, hb2, eb⟩
      · obtain ⟨g, e, l⟩ := tri _ _ _ _ ea eb hxy
        obtain ⟨g', e', l'⟩ := low _ _ _ e
        exact ⟨g', e', by omega⟩
      · -- x → k, k → m → y
        by_cases hxm : x = m
        · subst hxm
          have := round0 k b1 a hb1 ea
          obtain ⟨g', e', l'⟩ := low _ _ _ hb2
          exact ⟨g', e', by omega⟩
        · obtain ⟨g, e, l⟩ := tri _ _ _ _ ea hb1 hxm
          obtain ⟨g', e', l'⟩ := lowM _ _ _ _ e hb2 hxy
          exact ⟨g', e', by omega⟩
    · rcases case' _ _ _ hb with eb | ⟨b1, b2, hb1, hb2, eb⟩
      · -- x → m → k, k → y
        by_cases hym : m = y
        · subst hym
          have := round0 k b a2 eb ha2
          obtain ⟨g', e', l'⟩ := low _ _ _ ha1
          exact ⟨g', e', by omega⟩
        · obtain ⟨g, e, l⟩ := tri _ _ _ _ ha2 eb hym
          obtain ⟨g', e', l'⟩ := lowM _ _ _ _ ha1 e hxy
          exact ⟨g', e', by omega⟩
      · have := round0 k b1 a2 hb1 ha2
        obtain ⟨g', e', l'⟩ := lowM _ _ _ _ ha1 hb2 hxy
        exact ⟨g', e', by omega⟩
  · rcases case' _ _ _ e with e | ⟨a, b, ha, hb, _⟩
    · exact h.ends _ _ _ e
    · exact ⟨(h.ends _ _ _ ha).1, (h.ends _ _ _ hb).2⟩

/-- closed over all points that stand at both ends of facts: the least sums -/
theorem Cl.lst {F : Fa S} {p : S → Int} {M : List S} {T : Tb S} (K : Keeps F p) (h : Cl F p M T)
    (hM : ∀ m x y c d, (x, m, c) ∈ F → x ≠ m → (m, y, d) ∈ F → m ≠ y → m ∈ M) {x y : S} (hxy : x ≠ y) :
    Lst F (fun _ => True) x y (T x y) where
  there := h.walk x y
  least := by
    have key : ∀ {x y c n}, Wk F (fun _ => True) x y c n → x ≠ y → ∃ g, T x y = some g ∧ g ≤ c := by
      intro x y c n w
      induction w with
      | nil _ => intro q; exact absurd rfl q
      | @cons x z y c d n hf _ w ih =>
        intro q
        have p1 := K _ _ _ hf
        have p2 := w.pot K
        by_cases hzy : z = y
        · subst hzy
          obtain ⟨g, e, l⟩ := h.fact _ _ _ hf q
          exact ⟨g, e, by omega⟩
        by_cases hxz : x = z
        · subst hxz
          obtain ⟨g, e, l⟩ := ih q
          exact ⟨g, e, by omega⟩
        obtain ⟨a, ea, la⟩ := h.fact _ _ _ hf hxz
        obtain ⟨b, eb, lb⟩ := ih hzy
        obtain ⟨y', d', hd', nd'⟩ := (h.ends _ _ _ eb).1
        obtain ⟨g, e, l⟩ := h.tri z (hM z x y' c d' hf hxz hd' nd') _ _ _ _ ea eb q
        exact ⟨g, e, by omega⟩
    exact fun c n w => key w hxy

theorem Wk.inside {F : Fa S} {A : S → Prop} (hF : ∀ x y c, (x, y, c) ∈ F → A x ∧ A y) : ∀ {x y c n}, Wk F (fun _ => True) x y c n → A x → Wk F A x y c n := by
  intro x y c n w
  induction w with
  | nil _ => exact fun a => .nil a
  | cons h _ _ ih => exact fun a => .cons h a (ih (hF _ _ _ h).2)

/-- the two tables are the same -/
theorem same {F : Fa S} {p : S → Int} {M V : List S} {T : Tb S} {n : Nat} (K : Keeps F p) (h : Cl F p M T)
    (hM : ∀ m x y c d, (x, m, c) ∈ F → x ≠ m → (m, y, d) ∈ F → m ≠ y → m ∈ M)
    (hF : ∀ x y c, (x, y, c) ∈ F → x ∈ V ∧ y ∈ V) (hn : V.length ≤ n) {x y : S} (hx : x ∈ V) (hxy : x ≠ y) :
    T x y = rounds V F n (diag V) x y := by
  have a := h.lst K hM hxy
  have b := rounds_lst K (fun x y c m => (hF x y c m).1) hn x y
  refine Lst.uniq (F := F) (A := fun _ => True) (x := x) (y := y) a ⟨fun g e => ?_, fun c m w => b.least c m (w.inside hF hx)⟩
  obtain ⟨m, w⟩ := b.there g e
  exact ⟨m, w.mono (fun _ _ => trivial)⟩

/-- of one source alike: 0 -/
theorem same0 {F : Fa S} {p : S → Int} {V : List S} {n : Nat} (K : Keeps F p)
    (hF : ∀ x y c, (x, y, c) ∈ F → x ∈ V ∧ y ∈ V) (hn : V.length ≤ n) {x : S} (hx : x ∈ V) : rounds V F n (diag V) x x = some 0 := by
  have b := rounds_lst K (fun x y c m => (hF x y c m).1) hn x x
  obtain ⟨g, e, l⟩ := b.least 0 0 (.nil hx)
  obtain ⟨m, w⟩ := b.there g e
  have := w.pot K
  rw [e]; congr 1; omega

end Fv.M


set_option Elab.async false
set_option linter.all false
set_option maxRecDepth 100000
set_option maxHeartbeats 1000000
namespace Fv
open PySem PySem.Spec PyProof.Rows L2
/-! a sorted list of texts is told by what is in it -/
def leS (a b : Str) : Prop := ¬ (b.cps.toList < a.cps.toList)
theorem leS_trans {a b c : Str} (h : leS a b) (k : leS b c) : leS a c := by
  unfold leS at *
  rw [List.not_lt] at *
  exact List.le_trans h k
theorem leS_anti {a b : Str} (h : leS a b) (k : leS b a) : a = b := by
  unfold leS at *
  rw [List.not_lt] at *
  have := List.le_antisymm h k
  obtain ⟨⟨a⟩⟩ := a
  obtain ⟨⟨b⟩⟩ := b
  simp at this
  rw [this]
theorem rising_pw : ∀ (l : List Str) (p : Str), risingS p l = true → (∀ x ∈ l, leS p x) ∧ l.Pairwise leS
  | [], p, _ => ⟨fun x hx => (List.not_mem_nil hx).elim, List.Pairwise.nil⟩
  | y :: l, p, h => by
    unfold risingS at h
    rw [Bool.and_eq_true] at h
    have h1 : leS p y := by
      have h1 := h.1
      rw [ltCps_eq] at h1
      unfold leS
      simpa using h1
    obtain ⟨h2, h3⟩ := rising_pw l y h.2
    refine ⟨fun x hx => ?_, List.pairwise_cons.mpr ⟨h2, h3⟩⟩
    rcases List.mem_cons.mp hx with rfl | hx
    · exact h1
    · exact leS_trans h1 (h2 x hx)
theorem sorted_pw : ∀ {l : List Str}, sortedS l = true → l.Pairwise leS
  | [], _ => List.Pairwise.nil
  | x :: l, h => by
    obtain ⟨h1, h2⟩ := rising_pw l x h
    exact List.pairwise_cons.mpr ⟨h1, h2⟩
theorem sorted_one : ∀ {l m : List Str}, l.Pairwise leS → m.Pairwise leS → l.Perm m → l = m
  | [], m, _, _, p => (List.nil_perm.mp p).symm
  | x :: l, [], _, _, p => by
    have := p.length_eq
    simp at this
  | x :: l, y :: m, hl, hm, p => by
    obtain ⟨a1, a2⟩ := List.pairwise_cons.mp hl
    obtain ⟨b1, b2⟩ := List.pairwise_cons.mp hm
    have exy : x = y := by
      have i1 := p.mem_iff.mp (List.mem_cons_self (a := x))
      have i2 := p.mem_iff.mpr (List.mem_cons_self (a := y))
      rcases List.mem_cons.mp i1 with h | h
      · exact h
      · rcases List.mem_cons.mp i2 with k | k
        · exact k.symm
        · exact leS_anti (a1 y k) (b1 x h)
    subst exy
    rw [sorted_one a2 b2 (List.Perm.cons_inv p)]
theorem sorted_same {l m a b : List Str} (hl : sortedS l = true) (hm : sortedS m = true) (pl : l.Perm a) (pm : m.Perm b) (h : a.Perm b) : l = m := sorted_one (sorted_pw hl) (sorted_pw hm) ((pl.trans h).trans pm.symm)
end Fv


set_option Elab.async false
set_option linter.all false
set_option maxRecDepth 100000
set_option maxHeartbeats 2000000
/-! enumerate over a tuple -/
namespace Fv
open PySem PySem.Spec PyProof.Rows L2
open AutoSeq1 (wpAny_loadPart')
theorem draws_tup {prog : Program} {w : World} {A : Around} (hh : A.handled = none) (it t : Addr) (hne : t ≠ it) (items : Array Value) :
    Draws prog w A it [it, t] items.size (fun i v => items[i]? = some v) (fun i h => h.IsTupleIter it t i ∧ h.IsTuple t items) where
  live := fun _ _ st => let ⟨o, ho, _⟩ := st.1; ⟨o, ho⟩
  frame := fun _ _ _ st hk => ⟨st.1.at fun o e => hk it (by simp) o e, let ⟨o, ho, r⟩ := st.2; ⟨o, hk t (by simp) o ho, r⟩⟩
  item := fun i s Q E hi st hQ => by
    refine RZ.nextOf_tuple_item st.1 st.2 (x := items[i]) (by simp [hi]) fun h' hit' hs' => ?_
    obtain ⟨o, ho, r⟩ := st.2
    exact hQ _ h' s.toks (by simp [hi]) ⟨hit', o, hs'.extBut t o hne ho, r⟩ hs'
  done := fun s Q E st hE => RZ.nextOf_tuple_end hh st.1 st.2 (by simp) hE
theorem enum_new (l : Addr) (items : Array Value) (n : Nat) (dct : Option Addr) (sl : Array (Option Value)) :
    Meets (Builtin.«enumerate.__new__» ⟨[.type "enumerate", .ref l], []⟩) (fun _ R s => s.heap.get? l = some { cls := .type "tuple", dict := dct, data := .seq items n, slots := sl } ∧
      R (.ok (.ret (.ref (s.heap.push { cls := .type "tuple_iterator", data := .fields #[.ref l, .int 0 0] }).objs.size)))
        { s with heap := (s.heap.push { cls := .type "tuple_iterator", data := .fields #[.ref l, .int 0 0] }).push { cls := .type "enumerate", data := .fields #[.none, .bool false, .ref s.heap.objs.size, rawInt 0, .none, .none] } }) :=
  .of_wp fun prog w A R s h => by
    obtain ⟨hp, g, d, tk, os⟩ := s
    obtain ⟨hl, h⟩ := h
    have hsub := sub_enumerate
    have hL : Heap.IsTuple (Shared.heap ⟨hp, g, d, tk, os⟩) l items := ⟨_, hl, rfl, n, rfl⟩
    wp_walk using wpAny_loadPart' hl
    refine wpAny_stack_any fun st => wpAny_pure ?_
    split
    · rename_i c _ _ _ _ _
      cases (c == Value.type "enumerate") <;> (wp_walk using wpAny_loadPart' hl, wpAny_pyIter_tuple hL; exact ⟨_, rfl, h⟩)
    · wp_walk using wpAny_loadPart' hl, wpAny_pyIter_tuple hL
      exact ⟨_, rfl, h⟩
section
variable {prog : Program} {w : World} {A : Around} {E : Value → Shared → Prop} {s : Shared}
theorem call_enumT {l : Addr} {items : Array Value} {Q : Value → Shared → Prop} (hL : s.heap.IsTuple l items)
    (h : ∀ h', IsEnum h' (s.heap.objs.size + 1) s.heap.objs.size 0 .none → h'.IsTupleIter s.heap.objs.size l 0 → h'.objs.size = s.heap.objs.size + 2 → (∀ b o, s.heap.get? b = some o → h'.get? b = some o) → Q (.ref (s.heap.objs.size + 1)) { s with heap := h' }) :
    wpAny (model prog w) A (call (.type "enumerate") [.ref l]) Q E s := by
  obtain ⟨⟨c, dct, dt, sl⟩, hl, hc, n, hd⟩ := hL
  simp only at hc hd
  subst hc hd
  have z1 : (s.heap.push { cls := .type "tuple_iterator", data := .fields #[.ref l, .int 0 0] }).objs.size = s.heap.objs.size + 1 := Heap.size_push ..
  have he : IsEnum ((s.heap.push { cls := .type "tuple_iterator", data := .fields #[.ref l, .int 0 0] }).push { cls := .type "enumerate", data := .fields #[.none, .bool false, .ref s.heap.objs.size, rawInt 0, .none, .none] }) (s.heap.objs.size + 1) s.heap.objs.size 0 .none := by
    have := Heap.get?_push_size (s.heap.push { cls := .type "tuple_iterator", data := .fields #[.ref l, .int 0 0] }) (o := { cls := .type "enumerate", data := .fields #[.none, .bool false, .ref s.heap.objs.size, rawInt 0, .none, .none] }) rfl
    rw [z1] at this
    exact this
  refine callType_new F.called_enumerate (by decide) (F.typeCall_enumerate_1 _) (F.newCall_enumerate_1 _) (fun obj => F.args_object_init_2 obj _) F.entry_enumerate_new (enum_new l items n dct sl) ⟨hl, ?_⟩
  show _ ∧ _
  rw [z1]
  exact ⟨⟨_, he, rfl⟩, h _ he ⟨_, Heap.get?_push_of_some _ (Heap.get?_push_size _ rfl), rfl, rfl⟩ (by rw [Heap.size_push, z1]) fun b o x => Heap.get?_push_of_some _ (Heap.get?_push_of_some _ x)⟩
theorem enum_endT {e it l : Addr} {i : Nat} {j : Int} {items : Array Value} {old : Value} {Q : Option Value → Shared → Prop} (hh : A.handled = none) (he : IsEnum s.heap e it j old) (hit : s.heap.IsTupleIter it l i) (hl : s.heap.IsTuple l items) (hx : items[i]? = none)
    (hQ : ∀ h', Heap.ExtBut it s.heap h' → Q none { s with heap := h' }) : wpAny (model prog w) A (pyNext (.ref e)) Q E s := by
  have hT : s.TypeIs (.ref e) "enumerate" := ⟨_, he, rfl⟩
  unfold pyNext
  refine wpAny_bind (wpAny_attempt (wpAny_callSpecial?_slot (name := Str.ofString "__next__") hT F.slot_enumerate_next (wpAny_call_entry F.slot_enumerate_next hT F.entry_enumerate_next ?_ (F.args_enumerate_next_1 _))))
  show wpAny _ _ (field (.ref e) 2 >>= _) _ _ _
  refine wpAny_bind (wpAny_field he rfl (x := .ref it) rfl (wpAny_bind (RZ.nextOf_tuple_end hh hit hl hx fun h' x k ⟨o, ho, hc⟩ => ?_)))
  exact wpAny_bind (wpAny_isInstance (T := "StopIteration") (b := true) ⟨o, ho, hc⟩ isSubtype_stop (wpAny_pure (hQ _ k)))
end
/-- the tuple at a as it stands at each turn, its items in new pairs with their numbers -/
def Iet (K : PySem.W.Frag) (a : Addr) : It :=
  ⟨fun i H => ∃ (xs : List V) (x : V), SqT K H a xs ∧ xs[i]? = some x, fun i H v H' => ∃ T x, v = .ref T ∧ H T = none ∧ H' = upd H T (.tup [.int (i : Nat), x]) ∧ ∀ xs, SqT K H a xs → xs[i]? = some x, fun i H => ∃ xs : List V, SqT K H a xs ∧ xs.length ≤ i⟩
theorem turn_enumT {P : Program} {w : World} {K : PySem.W.Frag} {elts : List Expr} {kk : Nat} {tpos : Pos} (a e it : Addr) (ha1 : a ≠ it) (ha2 : a ≠ e) :
    Turn P w K (.Tuple elts kk tpos) (Iet K a) [e, it] e (fun i h => (∃ old, IsEnum h e it ((i : Nat) : Int) old) ∧ h.IsTupleIter it a i ∧ e ≠ it) where
  mem := by simp
  obj := fun i h st b hb => by
    obtain ⟨⟨old, he⟩, ⟨o, ho, hc, hd⟩, _⟩ := st
    rcases (show b = e ∨ b = it by simpa using hb) with rfl | rfl
    · exact ⟨_, he, fun v q => nomatch q⟩
    · exact ⟨o, ho, fun v q => by rw [hd] at q; cases q⟩
  keep := fun i h h' st k => ⟨let ⟨old, he⟩ := st.1; ⟨old, k e (by simp) _ he⟩, st.2.1.at fun o q => k it (by simp) o q, st.2.2⟩
  item := by
    intro X hP hw hK hc i pins s σ H E I hf st hg
    subst hP hw hK
    obtain ⟨⟨old, he⟩, hit, hne⟩ := st
    obtain ⟨xs, x, hq, hx⟩ := hg
    obtain ⟨its, rv, p, hz⟩ := I.tuple hq
    have p' : s.heap.IsTuple a its.toArray := p
    obtain ⟨u, hu, ru⟩ := rv.get hx
    have hlt : i < its.toArray.size := by
      have := (List.getElem?_eq_some_iff.mp hu).1
      simpa using this
    have hel : e < s.heap.objs.size := Heap.lt_size he
    have hil : it < s.heap.objs.size := by obtain ⟨_, q, _⟩ := hit; exact Heap.lt_size q
    refine wpAny_pyNext_enum_itemD (draws_tup (A := X.A.in1) (I.ok.hd hc) it a ha1 its.toArray) he ⟨hit, p'⟩ hlt hne (by simp [hne, Ne.symm ha2]) fun y h' tk py ho st' hT hsz hk => ?_
    have ey : y = u := by
      have : some u = some y := hu.symm.trans (by simpa using py)
      exact (Option.some.inj this).symm
    subst ey
    refine ⟨_, rfl, wpAny_letOwnedTupleGo_enum (s := { s with heap := h', toks := tk + 1 }) ho fun h'' he' sb => ?_⟩
    have hT2 : h''.get? s.heap.objs.size = some { cls := .type "tuple", data := .seq #[.int i tk, y] } := (sb.2 _ (Nat.ne_of_gt hel)).trans hT
    have new : ObjOk X.prog X.w (upd H s.heap.objs.size (.tup [.int (i : Nat), x])) h'' s.heap.objs.size (.tup [.int (i : Nat), x]) :=
      ⟨by show 2 ≤ sizeLine; decide, [.int i tk, y], .cons ⟨_, rfl⟩ (.cons ru .nil), ⟨_, hT2, rfl, _, rfl⟩⟩
    have I1 : Inv X pins σ (upd H s.heap.objs.size (.tup [.int (i : Nat), x])) { s with heap := h'', toks := tk + 1 } :=
      I.turnedNew (ch := [e, it]) (fun b ob hb q => (sb.2 b (fun z => hb (by simp [z]))).trans (hk b ob (fun z => hb (by simp [z])) (fun z => hb (by simp [z])) q)) hf (Nat.le_refl _) new
    refine ⟨.ref s.heap.objs.size, _, I1, rfl, ⟨_, x, rfl, I.hok.fresh (Nat.le_refl _), rfl, fun ys hy => by rw [I.tuple_inj hy hq]; exact hx⟩, ⟨⟨y, ?_⟩, st'.1.at fun o q => (sb.2 it (Ne.symm hne)).trans q, hne⟩, fun b hb => ?_⟩
    · rw [show ((i + 1 : Nat) : Int) = (i : Int) + 1 by omega]
      exact he'
    · have hb' : b < s.heap.objs.size := by
        rcases (show b = e ∨ b = it by simpa using hb) with rfl | rfl
        · exact hel
        · exact hil
      rw [upd_ne (Nat.ne_of_lt hb')]
      exact (hf b hb).1
  done := by
    intro X hP hw hK hc i pins s σ H E I hf st hg
    subst hP hw hK
    obtain ⟨⟨old, he⟩, hit, hne⟩ := st
    obtain ⟨xs, hq, hx⟩ := hg
    obtain ⟨its, rv, p, hz⟩ := I.tuple hq
    obtain ⟨f0, f1, f2, f3, f4, f5⟩ := hf it (by simp)
    have hl := rv.length
    exact enum_endT (I.ok.hd hc) he hit (show s.heap.IsTuple a its.toArray from p) (by simp; omega) fun h' eb => ⟨rfl, I.turned (t' := s.toks) (fun b o hb q => eb b o hb q) f0 f1 f3 f4 f5⟩
  self := fun A i s Q E st h => let ⟨⟨_, he⟩, _⟩ := st; wpAny_pyIter_enum he h
def iEnumT (K : PySem.W.Frag) (ta : TA) : TI := fun σ H R => ta σ H fun vs H1 => ∃ a xs, vs = [.ref a] ∧ SqT K H1 a xs ∧ R (Iet K a) H1
theorem pi_enumT {X : Cx} {e : Expr} {ta : TA} {p pos tpos : Pos} {elts : List Expr} {kk : Nat} (hg : Gl X "enumerate") (hm : X.mg "enumerate" = none) (ha : PA X [e] ta) (hs : starEach [e] X.env = [(false, eval e X.env)] := by rfl) :
    PI X (.Tuple elts kk tpos) (.Call (.Name "enumerate" p) [e] [] pos) (iEnumT X.K ta) := by
  refine ⟨fun pins s σ H R I h => ?_⟩
  refine Call_ (ld_blt I hg hm boot_enumerate (PyProof.Rows.callWith_type1 (thn (ha.run pos pins s σ H _ I h) fun us s1 ⟨vs, H1, I1, r1, a, xs, ex, hq, q⟩ => ?_) hs rfl))
  subst ex
  rw [Vals.ref1 r1]
  obtain ⟨its, rv, p', hz⟩ := I1.tuple hq
  have hal : a < s1.heap.objs.size := by obtain ⟨o, ho, _⟩ := p'; exact Heap.lt_size ho
  refine call_enumT (show s1.heap.IsTuple a its.toArray from p') fun h' he hit hsz hk => wpAny_pyIter_enum he ?_
  have I2 : Inv X pins σ H1 { s1 with heap := h' } := I1.kept (t' := s1.toks) hk
  refine ⟨s1.heap.objs.size + 1, [s1.heap.objs.size + 1, s1.heap.objs.size], _, _, H1, rfl, I2, turn_enumT a (s1.heap.objs.size + 1) s1.heap.objs.size (Nat.ne_of_lt hal) (Nat.ne_of_lt (Nat.lt_succ_of_lt hal)), ⟨⟨.none, he⟩, hit, Nat.succ_ne_self _⟩, fun b hb => ?_, q⟩
  have hle : s1.heap.objs.size ≤ b := by
    rcases (show b = s1.heap.objs.size + 1 ∨ b = s1.heap.objs.size by simpa using hb) with z | z
    · rw [z]
      exact Nat.le_succ _
    · exact Nat.le_of_eq z.symm
  exact I1.fpOk hle (I1.hok.fresh hle)
theorem walk_enumT {K : PySem.W.Frag} {a : Addr} {xs : List V} : Walk (Iet K a) xs.length (fun H => SqT K H a xs) (YPair (fun i => some (.int (i : Nat))) (fun i => xs[i]?)) := by
  refine ⟨fun i _ hi q => ⟨xs, xs[i], q, by simp [hi]⟩, fun _ q => ⟨xs, q, Nat.le_refl _⟩, fun i H v H' _ q y => ?_⟩
  obtain ⟨T, x, h1, h2, h3, h4⟩ := y
  exact ⟨T, .int (i : Nat), x, h1, h2, h3, rfl, h4 xs q⟩
end Fv


set_option Elab.async false
set_option linter.all false
set_option maxRecDepth 100000
set_option maxHeartbeats 2000000
/-! y = {k: v for ..}, y a local -/
namespace Fv
open PySem PySem.Spec PyProof.Rows L2
theorem swD_true {kx vx : Expr} {gs : List Comprehension} {scope : Scope} {pos py : Pos} {y : PySem.Str} {l : Nat} {env : Env}
    (h1 : env.scope.kind = ScopeKind.function) (h2 : env.scope.names.lookup y = some NameKind.local) (h3 : (py.line == pos.line) = true)
    (h4 : (scope.names.any fun x => match x with | (n, k) => n == y && (k == NameKind.local || k == NameKind.cell)) = false) : swapsWith (kx.DictComp vx gs scope pos) (some (.Name y py)) l env = pure true := by
  have := sw_true (elt := kx) (gs := gs) (l := l) h1 h2 h3 h4
  unfold swapsWith at this ⊢
  exact this
section
variable {X : Cx}
theorem ps_setDc {i : Nat} {y : PySem.Str} {py : Pos} {kx vx tg iter : Expr} {ifs : List Expr} {scope : Scope} {own : List (PySem.Str × Nat)} {pos spos : Pos} {wi : TI} {g : TG} {tt : TT} {tk tv : TE} (hc : X.calm = true) (hN : X.N.Nodup)
    (hy : X.N[i]? = some y) (hl : X.env.scope.names.lookup y = some NameKind.local) (hsw : swapsWith (kx.DictComp vx [⟨tg, iter, ifs, 0⟩] scope pos) (some (.Name y py)) spos.line X.env = pure true) (hi : PI X tg iter wi) (ok : BlkOk X.N X.env.scope scope own)
    (hg : ∀ (s : Shared) (H : Hp) (C : Addr) (cl : List (PySem.Str × Addr)) (fp : List Addr), PG (X.blk s H scope (compEnvC scope cl C X.env) fp) tg g) (ht : ∀ (s : Shared) (H : Hp) (C : Addr) (cl : List (PySem.Str × Addr)) (fp : List Addr), PTs (X.blk s H scope (compEnvC scope cl C X.env) fp) ifs tt)
    (hk : ∀ (s : Shared) (H : Hp) (C : Addr) (cl : List (PySem.Str × Addr)) (fp : List Addr), PE (X.blk s H scope (compEnvC scope cl C X.env) fp) kx tk) (hv : ∀ (s : Shared) (H : Hp) (C : Addr) (cl : List (PySem.Str × Addr)) (fp : List Addr), PE (X.blk s H scope (compEnvC scope cl C X.env) fp) vx tv)
    (hs : ∀ x, foldedSetIterable iter X.env x = pure x := by intro _; rfl) :
    PS X (.Assign [.Name y py] (.DictComp kx vx [⟨tg, iter, ifs, 0⟩] scope pos) spos) (tAsg (tDc wi g tt tk tv (own.map (·.2))) (gName i)) := by
  refine ⟨fun pins s σ H D I h => ?_⟩
  rw [exec_Assign_arm]
  refine wpAny_bind (wpAny_standAt (wpAny_bind (wpAny_of_eq (a := true) hsw ?_)))
  rw [if_pos rfl]
  refine wpAny_bind ?_
  rw [evalThenUse]
  refine wpAny_bind (wpAny_mono (dc_core (pos' := firstIterPos [⟨tg, iter, ifs, 0⟩] pos) (Qf := fun _ s' => SP X pins D .next s') hc hN I hi ok hg ht hk hv hs h fun C0 C s' m H' I' q hn fp => ?_) (fun v s' z => wpAny_pure (wpAny_pure z)) fun _ _ z => z)
  obtain ⟨o, es, ep, ho, hd⟩ := id hn
  have P' := I'.pinned (fp := [C]) (fun b hb => by rw [List.mem_singleton.mp hb]; exact fp) (fun b hb => by
    rw [List.mem_singleton.mp hb]
    exact ⟨o, ho, fun v e => by rw [hd.1] at e; cases e⟩)
  have mem : (C, o) ∈ pinsAt [C] s'.heap := mem_pinsAt List.mem_cons_self ho
  refine wpAny_mono ((pg_name (pos := py) hN hy (.inl hl) (.inr hl)).run _ s' σ H' (.ref C0) (.ref C0) (fun σ1 H1 => H1 = H' ∧ D.nx σ1 H1) P' rfl ⟨rfl, q⟩) (fun _ s'' z => ?_) fun _ _ z => z
  obtain ⟨σ1, H1, J, rfl, q1⟩ := z
  have z := J.pin (C, o) (List.mem_append_right _ (List.mem_append_right _ mem))
  obtain ⟨f0, f1, f2, f3, f4, f5⟩ := fp
  refine ⟨m, ⟨o, es, ep, z.1, hd⟩, fun h' sb => ?_⟩
  exact ⟨σ1, H1, J.unpinned.turned (t' := s''.toks) (fun b o hb e => (sb.2 b hb).trans e) f0 f1 f3 f4 f5, q1⟩
end
theorem dc_it {J : It} {n : Nat} {G : Hp → Prop} {Y : Nat → Hp → V → Hp → Prop} (wk : Walk J n G Y) {g : TG} {tt : TT} {tk tv : TE} {vs : List Nat} {σ : L2.St} {H1 : Hp} {D : Addr} {Qd : Hp → Prop} (Pv : Nat → Hp → Prop) (h0 : Pv 0 (upd H1 D (.dK []))) (hG : ∀ i H, i ≤ n → Pv i H → G H)
    (hs : ∀ i x H H', i < n → Pv i H → Y i H x H' → g x (wipe σ vs) H' fun σ2 H2 => wipe σ2 vs = wipe σ vs ∧ tt σ2 H2 fun b H3 =>
      if b = true then tk σ2 H3 fun y H4 => tv σ2 H4 fun z H5 => ∃ (kvs : List (Key × V)) (k : Key), y = kV k ∧ H5 D = some (.dK kvs) ∧ kvs.length < sizeLine ∧ Pv (i + 1) (upd H5 D (.dK (putK kvs k z))) else Pv (i + 1) H3) (hd : ∀ H, Pv n H → Qd H) :
    ∃ W : Nat → Nat → Hp → Prop, (∃ m, W 0 m (upd H1 D (.dK []))) ∧ ∀ i m H, W i m H →
      (J.stop i H ∧ Qd H) ∨ (J.go i H ∧ ∃ Nx : Hp → Prop, (∀ H', Nx H' → ∃ m', m' < m ∧ W (i + 1) m' H') ∧ ∀ x H', J.yld i H x H' → g x (wipe σ vs) H' fun σ2 H2 => wipe σ2 vs = wipe σ vs ∧ tt σ2 H2 fun b H3 =>
        if b = true then tk σ2 H3 fun y H4 => tv σ2 H4 fun z H5 => ∃ (kvs : List (Key × V)) (k : Key), y = kV k ∧ H5 D = some (.dK kvs) ∧ kvs.length < sizeLine ∧ Nx (upd H5 D (.dK (putK kvs k z))) else Nx H3) := by
  refine ⟨fun i m H => m + i = n ∧ Pv i H, ⟨n, rfl, h0⟩, fun i m H ⟨hm, p⟩ => ?_⟩
  rcases Nat.lt_or_ge i n with hlt | hge
  · exact .inr ⟨wk.goes i H hlt (hG i H (Nat.le_of_lt hlt) p), Pv (i + 1), fun H' p' => ⟨n - (i + 1), by omega, by omega, p'⟩, fun x H' y => hs i x H H' hlt p (wk.yields i H x H' hlt (hG i H (Nat.le_of_lt hlt) p) y)⟩
  · obtain rfl : i = n := by omega
    exact .inl ⟨wk.stops H (hG i H hge p), hd H p⟩
end Fv


set_option Elab.async false
set_option linter.all false
set_option maxRecDepth 100000
set_option maxHeartbeats 4000000
namespace Fv
open PySem PySem.Spec PyProof.Rows L2
/-! ### the rows of facts, of any data -/
abbrev sChk : Stmt := top 14
abbrev sAreFacts : Stmt := top 19
abbrev sIsFact : Stmt := top 20
/-- what is not come to -/
def tDead : TE := fun _ _ _ => False
def sDead : TS := fun _ _ _ => False
theorem pe_dead {X : Cx} {e : Expr} : PE X e tDead := ⟨fun _ _ _ _ _ _ h => False.elim h⟩
theorem pss_dead {X : Cx} {st : List Stmt} : PSs X st sDead := ⟨fun _ _ _ _ _ _ h => False.elim h⟩
def spChk : Sp := fun vs H Q _ => ∃ a, vs = [.ref a] ∧ H a = some (.lst [.bl true, .bl true]) ∧ ∀ H', Same H H' → Q .non H'
def factD : PyData → Bool
  | .tuple [x, y, z] => sourceD x && sourceD y && intD z
  | _ => false
def factsD (d : PyData) : Bool := rowD d && (itemsD d).all factD
theorem fact_not {d : PyData} (h : isTupD d = false) : factD d = false := by cases d <;> first | rfl | cases h
theorem fact_len {ds : List PyData} (h : ds.length ≠ 3) : factD (.tuple ds) = false := by
  match ds, h with
  | [], _ => rfl
  | [_], _ => rfl
  | [_, _], _ => rfl
  | [_, _, _], h => exact absurd rfl h
  | _ :: _ :: _ :: _ :: _, _ => rfl
section
variable {P : Program} {w : World} {K : PySem.W.Frag} {mg : Str → Option Value} {base : Heap} {C : Addr}
theorem scCk : FnScope ["rights", "place", "right"] ["rights"] (defScope sChk) := ⟨rfl, rfl, rfl, by decide +kernel, rfl, by decide +kernel, by decide +kernel⟩
theorem ok_chk {f : Addr} {fd : FuncData} (F : Fun K "check_arguments" "check_arguments" sChk f fd) (me : mg "enumerate" = none) : FnOk P w K mg base CX0 1 f fd ["rights"] spChk := by
  refine F.ok scCk (fun vs H Q E h => ?_) (fun cdv A outer s H vs Q E hr h => ?_)
  · obtain ⟨a, rfl, _⟩ := h
    rfl
  · obtain ⟨a, rfl, ha, q⟩ := h
    refine ⟨_, pss_one (ps_for PassesOwn.never rfl (pi_enum (by rfl) me (pa_cons (pv 0) pa_nil)) (pg_tup (by rfl) (pgs_cons (pg_name (i := 1) scCk.nd rfl (.inl rfl)) (pgs_cons (pg_name (i := 2) scCk.nd rfl (.inl rfl)) pgs_nil)))
      (pss_one (ps_if (pt_not (pt_val (pv 2))) pss_dead pss_nil))), ?_⟩
    refine ⟨_, rfl, a, _, rfl, SqL.of ha, ?_⟩
    refine for_it (walk_enum (K := K) (a := a) (xs := [.bl true, .bl true])) (fun i σ H' => ∃ y1 y2 : Option V, σ = [some (.ref a), y1, y2] ∧ Same H H') ⟨none, none, rfl, fun _ _ e => e⟩ (fun i σ H' _ h => ?_) ?_ ?_
    · obtain ⟨_, _, _, s'⟩ := h
      exact SqL.of (s' _ _ ha)
    · rintro i x σ H' H2 hi ⟨y1, y2, rfl, s'⟩ ⟨T, vi, vx, rfl, nT, rfl, ei, ex⟩
      have sT := same_upd (o := .tup [vi, vx]) nT
      have hv : vx = .bl true := by
        match i, hi with
        | 0, _ => cases ex; rfl
        | 1, _ => cases ex; rfl
      subst hv
      refine ⟨T, _, rfl, SqT.of upd_same, rfl, _, _, rfl, _, _, rfl, rfl, ?_⟩
      refine ⟨_, rfl, _, rfl, iteF ?_⟩
      exact ⟨_, _, rfl, s'.trans sT⟩
    · rintro σ H' ⟨y1, y2, rfl, s'⟩
      exact q H' s'
theorem scIf : FnScope ["thing"] ["thing"] (defScope sIsFact) := ⟨rfl, rfl, rfl, by decide +kernel, rfl, by decide +kernel, by decide +kernel⟩
theorem ok_isfact {f fS fI : Addr} {fd fdS fdI : FuncData} (T : KFn K C) (F : Fun K "_is_fact" "_is_fact" sIsFact f fd)
    (GS : FnOk P w K mg base CX0 2 fS fdS ["thing"] (spX C sourceD)) (bS : Binds K fdS ["thing"] []) (mS : mg "is_source" = some (.ref fS)) (kS : PySem.W.keepIn K (.ref fS) = true)
    (GI : FnOk P w K mg base CX0 1 fI fdI ["thing"] (spX C intD)) (bI : Binds K fdI ["thing"] []) (mI : mg "is_integer" = some (.ref fI)) (kI : PySem.W.keepIn K (.ref fI) = true)
    (mq : mg "isinstance" = none) (mt : mg "tuple" = none) (ml : mg "len" = none) : FnOk P w K mg base CX0 3 f fd ["thing"] (spX C factD) := by
  refine F.ok scIf (fun vs H Q E h => ?_) (fun cdv A outer s H vs Q E hr h => ?_)
  · obtain ⟨b, v, d, rfl, _⟩ := h
    rfl
  · obtain ⟨b, v, d, rfl, hd, hs, hb, q⟩ := h
    obtain ⟨t, I⟩ := hd.isa T
    have hr1 : Room 1 _ := hr.mono (by decide)
    refine ⟨_, pss_cons (ps_if (PW.pt (pw_or (pt_not (pt_val (pe_callB call_isi (by rfl) mq (by decide +kernel) (pa_cons (pv 0) (pa_cons (pe_bltn (v := .ty "tuple") (by rfl) mt boot_tuple rfl) pa_nil)))))
        (pw_or1 (pt_cmpR op_ne (pe_callB call_len_seq (by rfl) ml PySem.boot_len (pa_cons (pv 0) pa_nil)) pe_int (nomark _)))))
        (pss_one (ps_ret pe_bl)) pss_nil)
      (pss_one (ps_ret (pe_and (pe_call GS hr (by rfl) mS kS bS .nil pass0 (pa_cons (pe_ix ix_tup (pv 0) pe_int (fun _ _ => rfl)) pa_nil))
        (pe_and (pe_call GS hr (by rfl) mS kS bS .nil pass0 (pa_cons (pe_ix ix_tup (pv 0) pe_int (fun _ _ => rfl)) pa_nil))
        (pe_one (pe_call GI hr1 (by rfl) mI kI bI .nil pass0 (pa_cons (pe_ix ix_tup (pv 0) pe_int (fun _ _ => rfl)) pa_nil))))))), ?_⟩
    refine ⟨_, rfl, _, _, _, _, _, rfl, .ty "tuple", I.ty, I.t, _, rfl, ?_⟩
    cases h1 : isTupD d with
    | false =>
      rw [fact_not h1] at q
      exact q H fun _ _ e => e
    | true =>
      obtain ⟨a, xs, ds, rfl, rfl, e1, hx⟩ := hd.tup_of h1
      have hlen := hx.len
      refine ⟨_, rfl, a, xs, rfl, .inr (SqT.of e1), rfl, _, rfl, ite2 (fun e => ?_) (fun e => ?_)⟩
      · have n2 : ds.length ≠ 3 := fun z => by
          rw [hlen, z] at e
          exact absurd e (by decide)
        rw [fact_len n2] at q
        exact q H fun _ _ e => e
      · obtain ⟨x, y, z, rfl⟩ := three_of (len_of e)
        obtain ⟨dx, dy, dz, rfl, h1, h2, h4⟩ := hx.three
        · have hs2 : okD dx ∧ okD dy ∧ okD dz ∧ True := hs.2
          refine ⟨_, rfl, a, _, _, _, rfl, rfl, SqT.of e1, atI_nat (j := 0) rfl, b, x, dx, rfl, h1, hs2.1, hb, fun H1 s1 => ⟨_, rfl, ?_⟩⟩
          have ep : factD (.tuple [dx, dy, dz]) = (sourceD dx && sourceD dy && intD dz) := rfl
          rw [ep] at q
          cases h3 : sourceD dx with
          | false =>
            rw [h3] at q
            exact q H1 s1
          | true =>
            rw [h3, Bool.true_and] at q
            refine iteT ⟨_, rfl, a, _, _, _, rfl, rfl, SqT.of (s1 _ _ e1), atI_nat (j := 1) rfl, b, y, dy, rfl, h2.mono fun c o _ e => s1 c o e, hs2.2.1, there s1 hb, fun H2 s2 => ⟨_, rfl, ?_⟩⟩
            cases h5 : sourceD dy with
            | false =>
              rw [h5] at q
              exact q H2 (s1.trans s2)
            | true =>
              rw [h5] at q
              refine ⟨_, rfl, a, _, _, _, rfl, rfl, SqT.of (s2 _ _ (s1 _ _ e1)), atI_nat (j := 2) rfl, b, z, dz, rfl, h4.mono fun c o _ e => s2 _ _ (s1 c o e), hs2.2.2.1, there (s1.trans s2) hb, fun H3 s3 => ?_⟩
              exact q H3 ((s1.trans s2).trans s3)
theorem scAf : FnScope ["thing", "item"] ["thing"] (defScope sAreFacts) := ⟨rfl, rfl, rfl, by decide +kernel, rfl, by decide +kernel, by decide +kernel⟩
theorem ok_arefacts {f fR fN : Addr} {fd fdR fdN : FuncData} (F : Fun K "_are_facts" "_are_facts" sAreFacts f fd)
    (GR : FnOk P w K mg base CX0 1 fR fdR ["thing"] (spX C rowD)) (bR : Binds K fdR ["thing"] []) (mR : mg "is_row" = some (.ref fR)) (kR : PySem.W.keepIn K (.ref fR) = true)
    (GN : FnOk P w K mg base CX0 3 fN fdN ["thing"] (spX C factD)) (bN : Binds K fdN ["thing"] []) (mN : mg "_is_fact" = some (.ref fN)) (kN : PySem.W.keepIn K (.ref fN) = true)
    (ma : mg "all" = none) : FnOk P w K mg base CX0 4 f fd ["thing"] (spX C factsD) := by
  refine F.ok scAf (fun vs H Q E h => ?_) (fun cdv A outer s H vs Q E hr h => ?_)
  · obtain ⟨b, v, d, rfl, _⟩ := h
    rfl
  · obtain ⟨b, v, d, rfl, hd, hs, hb, q⟩ := h
    have hr1 : Room 1 _ := hr.mono (by decide)
    refine ⟨_, pss_one (ps_ret (pe_and (pe_call GR hr1 (by rfl) mR kR bR .nil pass0 (pa_cons (pv 0) pa_nil))
      (pe_one (pe_callB (cr_all rfl) (by rfl) ma (by decide +kernel) (pa_cons
        (pe_lc (own := [("item", 1)]) (g := gName 1) (tt := tYes) rfl scAf.nd (pi_row (pv 0)) (blkOk_by (N := ["thing", "item"]) (sc := defScope sAreFacts) (by decide +kernel))
        (fun _ _ _ _ _ => pg_name (i := 1) scAf.nd rfl (Or.inl rfl)) (fun _ _ _ _ _ => pts_nil) (fun _ _ _ _ _ => pe_call GN hr (by rfl) mN kN bN .nil pass0 (pa_cons (pv 1) pa_nil))) pa_nil))))), ?_⟩
    have e : factsD d = (rowD d && (itemsD d).all factD) := rfl
    rw [e] at q
    refine ⟨_, rfl, b, v, d, rfl, hd, hs, hb, fun H1 s1 => ⟨_, rfl, ?_⟩⟩
    cases h0 : rowD d with
    | false =>
      rw [h0] at q
      exact q H1 s1
    | true =>
      rw [h0, Bool.true_and] at q
      have hd1 : Dx C H1 b v d := hd.mono fun a o _ e => s1 a o e
      obtain ⟨a, xs, ds, rfl, hdd, hrow, hx⟩ := hd1.row_of (K := K) h0
      rw [rows_items hdd] at q
      obtain ⟨hl, hok⟩ := rows_ok hdd hs
      have hlen := hx.len
      refine iteT ⟨_, rfl, a, xs, rfl, hrow, fun J G wk hG D hD => ?_⟩
      refine lc_it wk (fun i H' => Same H1 H' ∧ H' D = some (.lst ((ds.take i).map fun d => V.bl (factD d)))) ⟨same_upd hD, upd_same⟩ (fun i H' _ h => hG H' h.1) ?_ ?_
      · rintro i x H' H2 hi ⟨s', e'⟩ ⟨rfl, hxi⟩
        obtain ⟨dx, hdi, hdx⟩ := hx.get hxi
        refine ⟨rfl, _, rfl, b, x, dx, rfl, hdx.mono fun c o _ e => s' c o e, hok.mem dx (List.mem_of_getElem? hdi), there (s1.trans s') hb, fun H3 s3 => ⟨_, s3 _ _ e', ?_, fun c o e => ?_, ?_⟩⟩
        · rw [List.length_map, List.length_take]
          exact small60 (by omega)
        · rw [upd_ne (ne_of_none e hD)]
          exact s3 _ _ (s' c o e)
        · rw [upd_same, take_map_snoc hdi]
      · rintro H2 ⟨s2, e2⟩
        rw [hlen, List.take_length] at e2
        refine ⟨D, ds.map factD, rfl, SqL.of (by rw [List.map_map]; exact e2), ?_⟩
        rw [List.all_map]
        exact q H2 (s1.trans s2)
end
end Fv


set_option Elab.async false
set_option linter.all false
set_option maxRecDepth 100000
set_option maxHeartbeats 4000000
namespace Fv
open PySem PySem.Spec PyProof.Rows L2
/-! ### the tightest facts: a dict by pairs of texts -/
abbrev sTight : Stmt := top 22
abbrev FaT : Type := Str × Str × Int
/-- the item holds the fact -/
def FaIt (H : Hp) (v : V) (f : FaT) : Prop := ∃ t, v = .ref t ∧ H t = some (.tup [.str f.1, .str f.2.1, .int f.2.2])
structure Its (H : Hp) (xs : List V) (L : List FaT) : Prop where
  len : xs.length = L.length
  at_ : ∀ (i : Nat) (x : V), xs[i]? = some x → ∃ f : FaT, L[i]? = some f ∧ FaIt H x f
theorem Its.same {H H' : Hp} {xs : List V} {L : List FaT} (h : Its H xs L) (s : Same H H') : Its H' xs L :=
  ⟨h.len, fun i x e => by obtain ⟨f, hf, t, ht, hh⟩ := h.at_ i x e; exact ⟨f, hf, t, ht, s _ _ hh⟩⟩
theorem small6k {n : Nat} (h : n ≤ 6000) : n < sizeLine := by rw [sizeLine_eq]; omega
def kP (x y : Str) : List Key := [Sum.inr x, Sum.inr y]
theorem kP_inj {x y u v : Str} : kP x y = kP u v ↔ x = u ∧ y = v := by
  unfold kP
  constructor
  · intro h
    simp only [List.cons.injEq, Sum.inr.injEq, and_true] at h
    exact h
  · rintro ⟨rfl, rfl⟩
    rfl
/-- the dict holds the table -/
structure TbL (kvs : List (List Key × V)) (T : M.Tb Str) : Prop where
  val : ∀ x y, valV kvs (kP x y) = (T x y).map V.int
  form : ∀ kv ∈ kvs, ∃ x y c, kv = (kP x y, V.int c) ∧ T x y = some c
  nd : (kvs.map (·.1)).Nodup
theorem TbL.nil : TbL [] (fun _ _ => none) := ⟨fun _ _ => rfl, fun _ h => absurd h List.not_mem_nil, List.nodup_nil⟩
theorem TbL.put {kvs : List (List Key × V)} {T : M.Tb Str} (h : TbL kvs T) (x y : Str) (c : Int) : TbL (putK kvs (kP x y) (.int c)) (M.put T x y c) := by
  refine ⟨fun u v => ?_, fun kv hkv => ?_, ?_⟩
  · rw [valV_put, h.val]
    unfold M.put
    by_cases e : u = x ∧ v = y
    · rw [if_pos e, if_pos (kP_inj.mpr e)]
      rfl
    · rw [if_neg e, if_neg (fun z => e (kP_inj.mp z))]
  · unfold putK at hkv
    split at hkv
    · obtain ⟨w, hw, rfl⟩ := List.mem_map.mp hkv
      obtain ⟨u, v, d, rfl, hT⟩ := h.form w hw
      by_cases e : u = x ∧ v = y
      · refine ⟨x, y, c, ?_, by simp [M.put]⟩
        rw [if_pos (kP_inj.mpr e), e.1, e.2]
      · refine ⟨u, v, d, if_neg (fun z => e (kP_inj.mp z)), ?_⟩
        unfold M.put
        rw [if_neg e]
        exact hT
    · rename_i ha
      rcases List.mem_append.mp hkv with z | z
      · obtain ⟨u, v, d, rfl, hT⟩ := h.form _ z
        refine ⟨u, v, d, rfl, ?_⟩
        unfold M.put
        by_cases e : u = x ∧ v = y
        · refine absurd ?_ ha
          rw [List.any_eq_true]
          exact ⟨_, z, decide_eq_true (kP_inj.mpr e)⟩
        · rw [if_neg e]
          exact hT
      · rw [List.mem_singleton.mp z]
        exact ⟨x, y, c, rfl, by simp [M.put]⟩
  · have nd := h.nd
    unfold putK
    split
    · have e : (kvs.map fun kv => if kv.1 = kP x y then (kv.1, V.int c) else kv).map (·.1) = kvs.map (·.1) := by
        rw [List.map_map]
        refine List.map_congr_left fun kv _ => ?_
        show (if kv.1 = kP x y then (kv.1, V.int c) else kv).1 = kv.1
        split <;> rfl
      rw [e]
      exact nd
    · rename_i ha
      rw [List.map_append, List.nodup_append]
      refine ⟨nd, by simp, fun u hu v hv => ?_⟩
      obtain rfl : v = kP x y := by simpa using hv
      rintro rfl
      obtain ⟨kv, hkv, ek⟩ := List.mem_map.mp hu
      exact ha (List.any_eq_true.mpr ⟨kv, hkv, decide_eq_true ek⟩)
theorem nodup_pairs {α : Type} [DecidableEq α] (V : List α) : ∀ (L : List (α × α)), L.Nodup → (∀ e ∈ L, e.1 ∈ V ∧ e.2 ∈ V) → L.length ≤ V.length * V.length := by
  intro L nd h
  have sub : ∀ (A B : List (α × α)), A.Nodup → (∀ e ∈ A, e ∈ B) → A.length ≤ B.length := by
    intro A
    induction A with
    | nil => intro B _ _; exact Nat.zero_le _
    | cons a A ih =>
      intro B nd h
      have ha := h a List.mem_cons_self
      have nd' := List.nodup_cons.mp nd
      have := ih (B.erase a) nd'.2 fun e he => (List.mem_erase_of_ne (a := e) (b := a) (fun z => nd'.1 (by rw [← z]; exact he))).mpr (h e (List.mem_cons_of_mem _ he))
      rw [List.length_erase_of_mem ha] at this
      have pos : 0 < B.length := List.length_pos_of_mem ha
      rw [List.length_cons]
      omega
  have all_ := sub L (V.flatMap fun x => V.map fun y => (x, y)) nd fun e he => by
    rw [List.mem_flatMap]
    exact ⟨e.1, (h e he).1, List.mem_map.mpr ⟨e.2, (h e he).2, rfl⟩⟩
  have len : ∀ W : List α, (W.flatMap fun x => V.map fun y => (x, y)).length = W.length * V.length := by
    intro W
    induction W with
    | nil => simp
    | cons a W ih => rw [List.flatMap_cons, List.length_append, ih, List.length_map, List.length_cons, Nat.succ_mul, Nat.add_comm]
  rw [len] at all_
  exact all_
/-- few entries: the pairs of points are few -/
theorem TbL.few {kvs : List (List Key × V)} {T : M.Tb Str} (h : TbL kvs T) (W : List Str) (hW : ∀ x y c, T x y = some c → x ∈ W ∧ y ∈ W) : kvs.length ≤ W.length * W.length := by
  obtain ⟨L, hL, hk⟩ : ∃ L : List (Str × Str), kvs.map (·.1) = L.map (fun e => kP e.1 e.2) ∧ ∀ e ∈ L, e.1 ∈ W ∧ e.2 ∈ W := by
    have f := h.form
    clear h
    induction kvs with
    | nil => exact ⟨[], rfl, fun _ h => absurd h List.not_mem_nil⟩
    | cons kv kvs ih =>
      obtain ⟨L, hL, hk⟩ := ih fun e he => f e (List.mem_cons_of_mem _ he)
      obtain ⟨x, y, c, rfl, hT⟩ := f kv List.mem_cons_self
      refine ⟨(x, y) :: L, by rw [List.map_cons, List.map_cons, hL], fun e he => ?_⟩
      rcases List.mem_cons.mp he with rfl | he
      · exact hW _ _ _ hT
      · exact hk e he
  have nd := h.nd
  rw [hL] at nd
  have ndL : L.Nodup := List.Pairwise.of_map (fun e : Str × Str => kP e.1 e.2) (fun a b n z => n (by rw [z])) nd
  have := nodup_pairs W L ndL hk
  have e := congrArg List.length hL
  rw [List.length_map, List.length_map] at e
  omega
theorem putK_le (c : List (List Key × V)) (k : List Key) (x : V) : (putK c k x).length ≤ c.length + 1 := by
  unfold putK
  split
  · rw [List.length_map]; omega
  · rw [List.length_append]; exact Nat.le_refl _
def spTight : Sp := fun vs H Q _ => ∃ (a : Addr) (xs : List V) (L : List FaT) (p : Str → Int), vs = [.ref a] ∧ H a = some (.lst xs) ∧ Its H xs L ∧ L.length ≤ 6000 ∧ M.Keeps L p ∧
  ∀ (q : Addr) (kvs : List (List Key × V)) (T : M.Tb Str) (H' : Hp), H q = none → Same H H' → H' q = some (.dT kvs) → TbL kvs T → M.Tg L T → kvs.length ≤ L.length → Q (.ref q) H'
section
variable {P : Program} {w : World} {K : PySem.W.Frag} {mg : Str → Option Value} {base : Heap} {C : Addr}
abbrev nTg : List Str := ["facts", "table", "x", "y", "c"]
theorem scTg : FnScope nTg ["facts"] (defScope sTight) := ⟨rfl, rfl, rfl, by decide +kernel, rfl, by decide +kernel, by decide +kernel⟩
theorem ok_tight {f : Addr} {fd : FuncData} (F : Fun K "_tightest" "_tightest" sTight f fd) : FnOk P w K mg base CX0 1 f fd ["facts"] spTight := by
  refine F.ok scTg (fun vs H Q E h => ?_) (fun cdv A outer s H vs Q E hr h => ?_)
  · obtain ⟨a, xs, L, p, rfl, _⟩ := h
    rfl
  · obtain ⟨a, xs, L, p, rfl, ha, hx, hl, K0, q⟩ := h
    have hu := hu_of hr
    refine ⟨_, pss_cons (ps_set (i := 1) scTg.nd rfl (.inl rfl) pe_dnewT)
      (pss_cons (ps_for PassesOwn.never rfl (pi_list (pv 0)) (pg_tup (by rfl) (pgs_cons (pg_name (i := 2) scTg.nd rfl (.inl rfl)) (pgs_cons (pg_name (i := 3) scTg.nd rfl (.inl rfl)) (pgs_cons (pg_name (i := 4) scTg.nd rfl (.inl rfl)) pgs_nil))))
        (pss_cons (ps_if (PW.pt (pw_and (pt_cmpR op_eq (pv 2) (pv 3) (nomark _)) (pw_and1 (pt_cmpR op_lt (pv 4) pe_int (nomark _))))) pss_dead pss_nil)
        (pss_one (ps_if (PW.pt (pw_and (pt_cmpR op_ne (pv 2) (pv 3) (nomark _)) (pw_and1 (pt_cmpR op_lt (pv 4) (pe_dget2 hu (pv 1) (pe_tup (pa_cons (pv 2) (pa_cons (pv 3) pa_nil))) (pe_op op_add (pv 4) pe_int) ⟨rfl, rfl, rfl, rfl⟩) (nomark _)))))
          (pss_one (ps_dput hu (pv 1) (pe_tup (pa_cons (pv 2) (pa_cons (pv 3) pa_nil))) (pv 4) rfl)) pss_nil))))
      (pss_one (ps_ret (pv 1)))), ?_⟩
    intro q0 nq
    have w1 := same_upd (o := .dT []) nq
    dsimp only [gName]
    refine ⟨_, rfl, a, rfl, ⟨_, SqL.of (w1 _ _ ha)⟩, ?_⟩
    refine for_list (K := K) (a := a) (xs := xs) (fun i σ H' => ∃ (y2 y3 y4 : Option V) (kvs : List (List Key × V)) (T : M.Tb Str), σ = [some (.ref a), some (.ref q0), y2, y3, y4] ∧ Same H H' ∧ H' q0 = some (.dT kvs) ∧ TbL kvs T ∧ M.Tg (L.take i) T ∧ kvs.length ≤ i)
      ⟨none, none, none, [], _, rfl, w1, upd_same, .nil, .nil, Nat.le_refl _⟩ (fun i σ H' _ h => by obtain ⟨_, _, _, _, _, _, s', _⟩ := h; exact SqL.of (s' _ _ ha)) ?_ ?_
    · rintro i x σ H' hxi ⟨y2, y3, y4, kvs, T, rfl, s', eq, hT, tg, hk⟩
      obtain ⟨⟨fx, fy, fc⟩, hf, t, rfl, ht⟩ := hx.at_ i x hxi
      have ilt : i < L.length := (List.getElem?_eq_some_iff.mp hf).1
      have hm : (fx, fy, fc) ∈ L := List.mem_of_getElem? hf
      have tg' := tg.step (fx, fy, fc)
      have et : L.take (i + 1) = L.take i ++ [(fx, fy, fc)] := by rw [List.take_succ, hf]; rfl
      rw [← et] at tg'
      refine ⟨t, _, rfl, SqT.of (s' _ _ ht), rfl, _, _, rfl, _, _, rfl, _, _, rfl, rfl, ?_⟩
      refine ⟨_, rfl, _, rfl, rfl, _, rfl, ?_⟩
      by_cases hxy : fx = fy
      · subst hxy
        have h0 : 0 ≤ fc := by have := K0 _ _ _ hm; omega
        have e1 : M.tgStep T (fx, fx, fc) = T := by simp [M.tgStep]
        rw [e1] at tg'
        refine ite2 (fun e => ?_) (fun e => absurd (decide_eq_true (Eq.refl (V.str fx))) e)
        refine ⟨_, rfl, _, _, rfl, rfl, _, rfl, ite2 (fun e2 => ?_) (fun e2 => ?_)⟩
        · have z : fc < 0 := of_decide_eq_true e2
          omega
        refine ⟨_, rfl, _, rfl, rfl, _, rfl, ite2 (fun e3 => ?_) (fun e3 => ?_)⟩
        · simp at e3
        · exact ⟨_, _, _, kvs, T, rfl, s', eq, hT, tg', by omega⟩
      · have ne : V.str fx ≠ V.str fy := fun z => hxy (V.str.inj z)
        refine ite2 (fun e => absurd (of_decide_eq_true e) ne) (fun e => ?_)
        refine ⟨_, rfl, _, rfl, rfl, _, rfl, ite2 (fun e3 => ?_) (fun e3 => ?_)⟩
        · refine ⟨_, rfl, _, rfl, ?_⟩
          refine ⟨q0, rfl, .inr ⟨kvs, .inl eq⟩, _, rfl, _, rfl, by show 2 ≤ sizeLine; decide, fun pk npk => ?_⟩
          have kq : pk ≠ q0 := (ne_of_none eq npk).symm
          have sK := same_upd (o := .tup [.str fx, .str fy]) npk
          refine ⟨_, rfl, _, _, rfl, rfl, _, DGet.t (k := kP fx fy) (sK _ _ eq) upd_same, ?_⟩
          rw [hT.val]
          obtain ⟨z, ez, hp, hn⟩ : ∃ z : Int, ((T fx fy).map V.int).getD (V.int (fc + 1)) = V.int z ∧ (fc < z → M.tgStep T (fx, fy, fc) = M.put T fx fy fc) ∧ (¬ fc < z → M.tgStep T (fx, fy, fc) = T) := by
            cases eT : T fx fy with
            | none =>
              refine ⟨fc + 1, rfl, fun _ => ?_, fun n => absurd (Int.lt_succ fc) n⟩
              unfold M.tgStep
              rw [if_pos ⟨hxy, fun g e => by rw [eT] at e; cases e⟩]
            | some g =>
              refine ⟨g, rfl, fun l => ?_, fun n => ?_⟩
              · unfold M.tgStep
                rw [if_pos ⟨hxy, fun g' e => by rw [eT] at e; cases e; exact l⟩]
              · unfold M.tgStep
                rw [if_neg (fun z => n (z.2 g eT))]
          refine ⟨_, _, rfl, ez, _, rfl, ite2 (fun e4 => ?_) (fun e4 => ?_)⟩
          · have lt : fc < z := of_decide_eq_true e4
            rw [hp lt] at tg'
            refine ⟨_, rfl, _, rfl, _, rfl, _, rfl, by show 2 ≤ sizeLine; decide, fun p2 np2 => ?_⟩
            have sK2 := sK.trans (same_upd (o := .tup [.str fx, .str fy]) np2)
            refine ⟨q0, _, rfl, DPut.t (k := kP fx fy) (sK2 _ _ eq) upd_same (Nat.lt_of_le_of_lt hk (small6k (by omega))), ?_⟩
            exact ⟨_, _, _, _, _, rfl, fun c o e => by rw [upd_ne (ne_of_none e nq)]; exact sK2 _ _ (s' c o e), upd_same, hT.put fx fy fc, tg', Nat.le_trans (putK_le _ _ _) (by omega)⟩
          · have nl : ¬ fc < z := fun l => e4 (decide_eq_true l)
            rw [hn nl] at tg'
            exact ⟨_, _, _, kvs, T, rfl, s'.trans sK, sK _ _ eq, hT, tg', by omega⟩
        · simp [hxy] at e3
    · rintro σ H' ⟨y2, y3, y4, kvs, T, rfl, s', eq, hT, tg, hk⟩
      rw [hx.len, List.take_length] at tg
      exact ⟨_, rfl, q q0 kvs T H' nq s' eq hT tg (by rw [← hx.len]; exact hk)⟩
end
end Fv


set_option Elab.async false
set_option linter.all false
set_option maxRecDepth 100000
set_option maxHeartbeats 4000000
namespace Fv
open PySem PySem.Spec PyProof.Rows L2
/-! ### the sources of facts are known -/
abbrev sChkSrc : Stmt := top 21
def dkOf (zs : List Str) : List (Key × V) := zs.foldl (fun kvs z => putK kvs (Sum.inr z) (.bl true)) []
theorem dkOf_snoc (zs : List Str) (z : Str) : dkOf (zs ++ [z]) = putK (dkOf zs) (Sum.inr z) (.bl true) := by
  unfold dkOf
  rw [List.foldl_append]
  rfl
theorem putKK_le (c : List (Key × V)) (k : Key) (x : V) : (putK c k x).length ≤ c.length + 1 := by
  unfold putK
  split
  · rw [List.length_map]; omega
  · rw [List.length_append]; exact Nat.le_refl _
theorem dkOf_both : ∀ (n : Nat) (zs : List Str), zs.length = n → (dkOf zs).length ≤ n ∧ ∀ z, (valV (dkOf zs) (Sum.inr z)).isSome = decide (z ∈ zs)
  | 0, zs, h => by
    obtain rfl := List.length_eq_zero_iff.mp h
    exact ⟨Nat.le_refl _, fun z => by simp [dkOf, valV]⟩
  | n + 1, zs, h => by
    obtain ⟨ys, y, rfl⟩ : ∃ ys y, zs = ys ++ [y] := by
      have ne : zs ≠ [] := fun e => by rw [e] at h; cases h
      exact ⟨zs.dropLast, zs.getLast ne, (List.dropLast_concat_getLast ne).symm⟩
    have hl : ys.length = n := by simpa using h
    obtain ⟨h1, h2⟩ := dkOf_both n ys hl
    rw [dkOf_snoc]
    refine ⟨Nat.le_trans (putKK_le _ _ _) (by omega), fun z => ?_⟩
    rw [valV_put]
    by_cases e : z = y
    · subst e
      rw [if_pos rfl]
      simp
    · rw [if_neg (fun q => e (Sum.inr.inj q)), h2]
      simp [e]
def spChkS : Sp := fun vs H Q _ => ∃ (n a : Addr) (zs : List Str) (xs : List V) (L : List FaT), vs = [.ref n, .ref a] ∧ H n = some (.lst (zs.map V.str)) ∧ zs.length ≤ 60 ∧ H a = some (.lst xs) ∧ Its H xs L ∧
  (∀ f ∈ L, (f.1 = "" ∨ f.1 ∈ zs) ∧ (f.2.1 = "" ∨ f.2.1 ∈ zs)) ∧ ∀ H', Same H H' → Q .non H'
section
variable {P : Program} {w : World} {K : PySem.W.Frag} {mg : Str → Option Value} {base : Heap} {C : Addr}
abbrev nCs : List Str := ["names", "facts", "known", "x", "y", "_", "source", "name"]
theorem scCs : FnScope nCs ["names", "facts"] (defScope sChkSrc) := ⟨rfl, rfl, rfl, by decide +kernel, rfl, by decide +kernel, by decide +kernel⟩
theorem ok_chks {f : Addr} {fd : FuncData} (F : Fun K "_check_sources" "_check_sources" sChkSrc f fd) : FnOk P w K mg base CX0 1 f fd ["names", "facts"] spChkS := by
  refine F.ok scCs (fun vs H Q E h => ?_) (fun cdv A outer s H vs Q E hr h => ?_)
  · obtain ⟨n, a, zs, xs, L, rfl, _⟩ := h
    rfl
  · obtain ⟨n, a, zs, xs, L, rfl, hn, hz, ha, hx, hs, q⟩ := h
    have hu := hu_of hr
    refine ⟨_, pss_cons (ps_setDc (i := 2) (own := [("name", 7)]) (g := gName 7) (tt := tYes) rfl scCs.nd rfl rfl (swD_true rfl rfl rfl (by decide +kernel)) (pi_list (pv 0)) (blkOk_by (N := nCs) (sc := defScope sChkSrc) (by decide +kernel))
        (fun _ _ _ _ _ => pg_name (i := 7) scCs.nd rfl (Or.inl rfl)) (fun _ _ _ _ _ => pts_nil) (fun _ _ _ _ _ => pv 7) (fun _ _ _ _ _ => pe_bl))
      (pss_one (ps_for PassesOwn.never rfl (pi_list (pv 1)) (pg_tup (by rfl) (pgs_cons (pg_name (i := 3) scCs.nd rfl (.inl rfl)) (pgs_cons (pg_name (i := 4) scCs.nd rfl (.inl rfl)) (pgs_cons (pg_name (i := 5) scCs.nd rfl (.inl rfl)) pgs_nil))))
        (pss_one (ps_for PassesOwn.never rfl (pi_tup (pe_tup (pa_cons (pv 3) (pa_cons (pv 4) pa_nil)))) (pg_name (i := 6) scCs.nd rfl (.inl rfl))
          (pss_one (ps_if (PW.pt (pw_and (pt_cmpR op_ne (pv 6) pe_str (nomark _)) (pw_and1 (pt_cmp (pc_dnotin hu (pv 6) (pv 2)))))) pss_dead pss_nil)))))), ?_⟩
    refine ⟨_, rfl, n, rfl, ⟨_, SqL.of hn⟩, fun D hD => ?_⟩
    refine dc_it (walk_list (K := K) (a := n) (xs := zs.map V.str)) (fun i H' => Same H H' ∧ H' D = some (.dK (dkOf (zs.take i)))) ⟨same_upd hD, upd_same⟩ (fun i H' _ h => SqL.of (h.1 _ _ hn)) ?_ ?_
    · rintro i x H' H2 hi ⟨s', e'⟩ ⟨rfl, hxi⟩
      obtain ⟨z, hzi, rfl⟩ : ∃ z, zs[i]? = some z ∧ x = .str z := by
        rw [List.getElem?_map] at hxi
        cases e : zs[i]? with
        | none => rw [e] at hxi; cases hxi
        | some z => rw [e] at hxi; cases hxi; exact ⟨z, rfl, rfl⟩
      have et : zs.take (i + 1) = zs.take i ++ [z] := by rw [List.take_succ, hzi]; rfl
      refine ⟨rfl, _, rfl, _, Sum.inr z, rfl, e', ?_, fun c o e => ?_, ?_⟩
      · exact Nat.lt_of_le_of_lt (dkOf_both _ _ rfl).1 (small60 (by rw [List.length_take]; omega))
      · rw [upd_ne (ne_of_none e hD)]
        exact s' c o e
      · rw [upd_same, et, dkOf_snoc]
    · rintro H1 ⟨s1, e1⟩
      rw [List.length_map, List.take_length] at e1
      have vz := (dkOf_both _ zs rfl).2
      dsimp only [gName]
      refine ⟨_, rfl, a, rfl, ⟨_, SqL.of (s1 _ _ ha)⟩, ?_⟩
      refine for_list (K := K) (a := a) (xs := xs) (fun i σ H' => ∃ y3 y4 y5 y6 y7 : Option V, σ = [some (.ref n), some (.ref a), some (.ref D), y3, y4, y5, y6, y7] ∧ Same H1 H') ⟨none, none, none, none, _, rfl, fun _ _ e => e⟩ (fun i σ H' _ h => by obtain ⟨_, _, _, _, _, _, s'⟩ := h; exact SqL.of (s' _ _ (s1 _ _ ha))) ?_ ?_
      · rintro i x σ H' hxi ⟨y3, y4, y5, y6, y7, rfl, s'⟩
        obtain ⟨⟨fx, fy, fc⟩, hf, t, rfl, ht⟩ := hx.at_ i x hxi
        obtain ⟨sx, sy⟩ := hs _ (List.mem_of_getElem? hf)
        refine ⟨t, _, rfl, SqT.of (s' _ _ (s1 _ _ ht)), rfl, _, _, rfl, _, _, rfl, _, _, rfl, rfl, ?_⟩
        refine ⟨_, rfl, _, rfl, by show 2 ≤ sizeLine; decide, fun p np => ?_⟩
        have sp := same_upd (o := .tup [.str fx, .str fy]) np
        refine ⟨p, rfl, ⟨_, SqT.of upd_same⟩, ?_⟩
        refine for_tup (K := K) (a := p) (xs := [.str fx, .str fy]) (fun i σ H2 => ∃ y6 y7 : Option V, σ = [some (.ref n), some (.ref a), some (.ref D), some (.str fx), some (.str fy), some (.int fc), y6, y7] ∧ H2 = upd H' p (.tup [.str fx, .str fy])) ⟨y6, y7, rfl, rfl⟩ (fun i σ H2 _ h => by obtain ⟨_, _, _, rfl⟩ := h; exact SqT.of upd_same) ?_ ?_
        · rintro j x σ H2 hxj ⟨y6, y7, rfl, rfl⟩
          obtain ⟨z, rfl, hz⟩ : ∃ z, x = .str z ∧ (z = "" ∨ z ∈ zs) := by
            match j, hxj with
            | 0, h => cases h; exact ⟨fx, rfl, sx⟩
            | 1, h => cases h; exact ⟨fy, rfl, sy⟩
          refine ⟨_, rfl, rfl, _, rfl, ite2 (fun e => ?_) (fun e => ?_)⟩
          · have nz : z ≠ "" := fun q => by simp [q] at e
            have hm := hz.resolve_left nz
            have sm := vz z
            rw [decide_eq_true hm] at sm
            refine ⟨_, rfl, _, rfl, D, _, rfl, DGet.k (k := Sum.inr z) (sp _ _ (s' _ _ e1)), ?_⟩
            refine ⟨_, rfl, ite2 (fun e5 => ?_) (fun e5 => ⟨_, _, rfl, rfl⟩)⟩
            rw [sm] at e5
            cases e5
          · exact ⟨_, _, rfl, rfl⟩
        · rintro σ H2 ⟨y6, y7, rfl, rfl⟩
          exact ⟨_, _, _, _, _, rfl, s'.trans sp⟩
      · rintro σ H' ⟨y3, y4, y5, y6, y7, rfl, s'⟩
        exact q H' (s1.trans s')
end
end Fv


set_option Elab.async false
set_option linter.all false
set_option maxRecDepth 100000
set_option maxHeartbeats 4000000
/-! zip over a tuple and a list -/
namespace Fv
open PySem PySem.Spec PyProof.Rows L2
abbrev mz1 (h : Heap) (a : Addr) : Heap := h.push { cls := .type "tuple_iterator", data := .fields #[.ref a, .int 0 0] }
abbrev mz2 (h : Heap) (a b : Addr) : Heap := (mz1 h a).push { cls := .type "list_iterator", data := .fields #[.ref b, .int 0 0] }
abbrev mz3 (h : Heap) (a b : Addr) : Heap := (mz2 h a b).push { cls := .type "tuple", data := .seq #[.ref h.objs.size, .ref (mz1 h a).objs.size] }
abbrev mz4 (h : Heap) (a b : Addr) : Heap := (mz3 h a b).push { cls := .type "tuple", data := .seq #[.none, .none] }
abbrev mz5 (h : Heap) (a b : Addr) : Heap := (mz4 h a b).push { cls := .type "zip", data := .fields #[.none, .bool false, .bool false, .ref (mz2 h a b).objs.size, .ref (mz3 h a b).objs.size] }
theorem mz_new (a b : Addr) (us vs : Array Value) : Meets (Builtin.«zip.__new__» ⟨[.type "zip", .ref a, .ref b], []⟩) (fun _ R s => s.heap.IsTuple a us ∧ s.heap.IsList b vs ∧
    R (.ok (.ret (.ref (mz4 s.heap a b).objs.size))) { s with heap := mz5 s.heap a b }) :=
  .of_wp fun prog w A R s hh => by
    obtain ⟨hp, g, d, tk, os⟩ := s
    obtain ⟨ha, hb, h⟩ := hh
    have hsub := sub_zip
    have h1 : Heap.IsTuple (Shared.heap ⟨hp, g, d, tk, os⟩) a us := ha
    have h2 : Heap.IsList (Shared.heap ⟨hp.push { cls := .type "tuple_iterator", data := .fields #[.ref a, .int 0 0] }, g, d, tk, os⟩) b vs := Heap.IsList.push hb _
    wp_walk using wpAny_pyIter_tuple h1, wpAny_pyIter_list h2
    exact ⟨_, rfl, h⟩
theorem call_mz {prog : Program} {w : World} {A : Around} {E : Value → Shared → Prop} {s : Shared} {a b : Addr} {us vs : Array Value} {Q : Value → Shared → Prop} (ha : s.heap.IsTuple a us) (hb : s.heap.IsList b vs)
    (k : ∀ h', IsZip h' (s.heap.objs.size + 4) (s.heap.objs.size + 2) (s.heap.objs.size + 3) .none → IsTupOf2 h' (s.heap.objs.size + 2) (.ref s.heap.objs.size) (.ref (s.heap.objs.size + 1)) → IsTupOf2 h' (s.heap.objs.size + 3) .none .none →
      h'.IsTupleIter s.heap.objs.size a 0 → h'.IsListIter (s.heap.objs.size + 1) b 0 → (∀ c o, s.heap.get? c = some o → h'.get? c = some o) → Q (.ref (s.heap.objs.size + 4)) { s with heap := h' }) :
    wpAny (model prog w) A (call (.type "zip") [.ref a, .ref b]) Q E s := by
  refine callType_new F.called_zip (by decide) (F.typeCall_zip_2 _ _) (F.newCall_zip_2 _ _) (fun obj => F.args_object_init_3 obj _ _) F.entry_zip_new (mz_new a b us vs) ⟨ha, hb, ?_⟩
  have n1 : (mz1 s.heap a).objs.size = s.heap.objs.size + 1 := Heap.size_push ..
  have n2 : (mz2 s.heap a b).objs.size = s.heap.objs.size + 2 := (Heap.size_push ..).trans (by rw [n1])
  have n3 : (mz3 s.heap a b).objs.size = s.heap.objs.size + 3 := (Heap.size_push ..).trans (by rw [n2])
  have n4 : (mz4 s.heap a b).objs.size = s.heap.objs.size + 4 := (Heap.size_push ..).trans (by rw [n3])
  have up : ∀ {h : Heap} {c : Addr} {o u : Obj}, h.get? c = some o → (h.push u).get? c = some o := fun e => Heap.get?_push_of_some _ e
  have g5 : (mz5 s.heap a b).get? (mz4 s.heap a b).objs.size = some _ := Heap.get?_push_size _ rfl
  have g4 : (mz5 s.heap a b).get? (mz3 s.heap a b).objs.size = some _ := up (Heap.get?_push_size _ rfl)
  have g3 : (mz5 s.heap a b).get? (mz2 s.heap a b).objs.size = some _ := up (up (Heap.get?_push_size _ rfl))
  have g2 : (mz5 s.heap a b).get? (mz1 s.heap a).objs.size = some _ := up (up (up (Heap.get?_push_size _ rfl)))
  have g1 : (mz5 s.heap a b).get? s.heap.objs.size = some _ := up (up (up (up (Heap.get?_push_size _ rfl))))
  show _ ∧ _
  rw [n2, n3, n4] at g5
  rw [n1, n2] at g3
  rw [n3] at g4
  rw [n1] at g2
  rw [n4]
  exact ⟨⟨_, g5, rfl⟩, k _ g5 g3 g4 ⟨_, g1, rfl, rfl⟩ ⟨_, g2, rfl, rfl⟩ fun c o x => up (up (up (up (up x))))⟩
theorem apart_tup {h : Heap} {i a : Addr} {k : Nat} {us : Array Value} (hi : h.IsTupleIter i a k) (ha : h.IsTuple a us) : a ≠ i := fun e => by
  obtain ⟨o1, e1, c1, _⟩ := hi
  obtain ⟨o2, e2, c2, _⟩ := ha
  rw [e, e1] at e2
  cases e2
  rw [c1] at c2
  simp at c2
theorem apart_lst {h : Heap} {i a : Addr} {k : Nat} {us : Array Value} (hi : h.IsListIter i a k) (ha : h.IsList a us) : a ≠ i := fun e => by
  obtain ⟨o1, e1, c1, _⟩ := hi
  obtain ⟨o2, e2, c2, _⟩ := ha
  rw [e, e1] at e2
  cases e2
  rw [c1] at c2
  simp at c2
/-- the tuple at a and the list at b as they stand at each turn, their items in new pairs -/
def Izm (K : PySem.W.Frag) (a b : Addr) : It :=
  ⟨fun i H => ∃ (xs ys : List V) (x y : V), SqT K H a xs ∧ SqL K H b ys ∧ xs[i]? = some x ∧ ys[i]? = some y,
    fun i H v H' => ∃ T x y, v = .ref T ∧ H T = none ∧ H' = upd H T (.tup [x, y]) ∧ (∀ xs, SqT K H a xs → xs[i]? = some x) ∧ ∀ ys, SqL K H b ys → ys[i]? = some y,
    fun i H => ∃ xs ys : List V, SqT K H a xs ∧ SqL K H b ys ∧ i ≤ xs.length ∧ i ≤ ys.length ∧ (i = xs.length ∨ i = ys.length)⟩
theorem turn_mz {P : Program} {w : World} {K : PySem.W.Frag} {elts : List Expr} {kk : Nat} {tpos : Pos} {a b z ti to i1 i2 : Addr} (S : ZipSep2 z ti to i1 i2 [i1, a] [i2, b]) :
    Turn P w K (.Tuple elts kk tpos) (Izm K a b) [z, ti, to, i1, i2] z (fun i h => IsZip h z ti to .none ∧ IsTupOf2 h ti (.ref i1) (.ref i2) ∧ (∃ x y, IsTupOf2 h to x y) ∧ h.IsTupleIter i1 a i ∧ h.IsListIter i2 b i) where
  mem := by simp
  obj := fun i h st c hc => by
    obtain ⟨pz, pi, ⟨x, y, po⟩, ⟨o1, e1, _, d1⟩, ⟨o2, e2, _, d2⟩⟩ := st
    rcases (show c = z ∨ c = ti ∨ c = to ∨ c = i1 ∨ c = i2 by simpa using hc) with rfl | rfl | rfl | rfl | rfl
    · exact ⟨_, pz, fun v q => nomatch q⟩
    · exact ⟨_, pi, fun v q => nomatch q⟩
    · exact ⟨_, po, fun v q => nomatch q⟩
    · exact ⟨o1, e1, fun v q => by rw [d1] at q; cases q⟩
    · exact ⟨o2, e2, fun v q => by rw [d2] at q; cases q⟩
  keep := fun i h h' st k => by
    obtain ⟨pz, pi, ⟨x, y, po⟩, h1, h2⟩ := st
    exact ⟨k z (by simp) _ pz, k ti (by simp) _ pi, ⟨x, y, k to (by simp) _ po⟩, h1.at fun o q => k i1 (by simp) o q, h2.at fun o q => k i2 (by simp) o q⟩
  item := by
    intro X hP hw hK hc i pins s σ H E I hf st hg
    subst hP hw hK
    obtain ⟨pz, pi, ⟨x0, y0, po⟩, h1, h2⟩ := st
    obtain ⟨xs, ys, x, y, qx, qy, hx, hy⟩ := hg
    obtain ⟨us, rv, p, _⟩ := I.tuple qx
    obtain ⟨vs, rv2, p2, _⟩ := I.list qy
    have pa : s.heap.IsTuple a us.toArray := p
    obtain ⟨u, hu, ru⟩ := rv.get hx
    obtain ⟨u2, hu2, ru2⟩ := rv2.get hy
    have lt1 : i < us.toArray.size := by
      have := (List.getElem?_eq_some_iff.mp hu).1
      simpa using this
    have lt2 : i < vs.toArray.size := by
      have := (List.getElem?_eq_some_iff.mp hu2).1
      simpa using this
    have lz : z < s.heap.objs.size := Heap.lt_size pz
    have na : a ≠ i1 := apart_tup h1 pa
    have nb : b ≠ i2 := apart_lst h2 p2.isList
    refine wpAny_pyNext_zipD2_item S (draws_tup (A := X.A.in1) (I.ok.hd hc) i1 a na us.toArray) (Draws.list (A := X.A.in1) (I.ok.hd hc) i2 b nb vs.toArray) pz pi po ⟨h1, pa⟩ ⟨h2, p2.isList⟩ lt1 lt2 fun y1 y2 h' tk r1 r2 z' to' s1' s2' hT hsz hk => ?_
    have e1 : y1 = u := by
      have : some u = some y1 := hu.symm.trans (by simpa using r1)
      exact (Option.some.inj this).symm
    have e2 : y2 = u2 := by
      have : some u2 = some y2 := hu2.symm.trans (by simpa using r2)
      exact (Option.some.inj this).symm
    subst e1 e2
    refine ⟨_, rfl, wpAny_letOwnedTupleGo_zip (s := { s with heap := h', toks := tk }) z' fun h'' z'' sb => ?_⟩
    have hT2 : h''.get? s.heap.objs.size = some { cls := .type "tuple", data := .seq #[y1, y2] } := (sb.2 _ (Nat.ne_of_gt lz)).trans hT
    have ok : ObjOk X.prog X.w (upd H s.heap.objs.size (.tup [x, y])) h'' s.heap.objs.size (.tup [x, y]) := ⟨by show 2 ≤ sizeLine; decide, [y1, y2], .cons ru (.cons ru2 .nil), ⟨_, hT2, rfl, _, rfl⟩⟩
    have kk : ∀ c o, c ∉ [z, ti, to, i1, i2] → s.heap.get? c = some o → h''.get? c = some o := fun c o hb q => (sb.2 c (fun q' => hb (by simp [q']))).trans (hk c o (fun q' => hb (by simp [q'])) (fun q' => hb (by simp [q'])) (fun q' => hb (by simp [q'])) (fun q' => hb (by simp [q'])) q)
    have I1 : Inv X pins σ (upd H s.heap.objs.size (.tup [x, y])) { s with heap := h'', toks := tk } := I.turnedNew (ch := [z, ti, to, i1, i2]) kk hf (Nat.le_refl _) ok
    refine ⟨.ref s.heap.objs.size, _, I1, rfl, ⟨_, x, y, rfl, I.hok.fresh (Nat.le_refl _), rfl, fun l hl => by rw [I.tuple_inj hl qx]; exact hx, fun l hl => by rw [I.list_inj hl qy]; exact hy⟩, ⟨z'', ?_, ⟨y1, y2, ?_⟩, ?_, ?_⟩, fun c hcm => ?_⟩
    · exact (sb.2 _ S.TIz).trans (hk _ _ S.TIz S.TITO S.TIi1 S.TIi2 pi)
    · exact (sb.2 _ S.TOz).trans to'
    · exact s1'.1.at fun o q => (sb.2 _ S.zi1.symm).trans q
    · exact s2'.1.at fun o q => (sb.2 _ S.zi2.symm).trans q
    · have lc : c < s.heap.objs.size := by
        rcases (show c = z ∨ c = ti ∨ c = to ∨ c = i1 ∨ c = i2 by simpa using hcm) with rfl | rfl | rfl | rfl | rfl
        · exact lz
        · exact Heap.lt_size pi
        · exact Heap.lt_size po
        · obtain ⟨_, e1, _⟩ := h1; exact Heap.lt_size e1
        · obtain ⟨_, e2, _⟩ := h2; exact Heap.lt_size e2
      rw [upd_ne (Nat.ne_of_lt lc)]
      exact (hf c hcm).1
  done := by
    intro X hP hw hK hc i pins s σ H E I hf st hg
    subst hP hw hK
    obtain ⟨pz, pi, ⟨x0, y0, po⟩, h1, h2⟩ := st
    obtain ⟨xs, ys, qx, qy, l1, l2, hend⟩ := hg
    obtain ⟨us, rv, p, _⟩ := I.tuple qx
    obtain ⟨vs, rv2, p2, _⟩ := I.list qy
    have pa : s.heap.IsTuple a us.toArray := p
    have e1 : us.toArray.size = xs.length := by rw [List.size_toArray, rv.length]
    have e2 : vs.toArray.size = ys.length := by rw [List.size_toArray, rv2.length]
    exact wpAny_pyNext_zipD2_end S (draws_tup (A := X.A.in1) (I.ok.hd hc) i1 a (apart_tup h1 pa) us.toArray) (Draws.list (A := X.A.in1) (I.ok.hd hc) i2 b (apart_lst h2 p2.isList) vs.toArray) pz pi po ⟨h1, pa⟩ ⟨h2, p2.isList⟩ (by rw [e1]; exact l1) (by rw [e2]; exact l2) (by rw [e1, e2]; exact hend) fun h' tk hk => ⟨rfl, I.turnedL (t' := tk) (ch := [z, ti, to, i1, i2]) (fun c o hb q =>
      hk c o (fun q' => hb (by simp [q'])) (fun q' => hb (by simp [q'])) (fun q' => hb (by simp [q'])) (fun q' => hb (by simp [q'])) q) hf⟩
  self := fun A i s Q E st h => wpAny_pyIter_zip st.1 h
theorem not_pair {x p q : Nat} (h1 : x ≠ p) (h2 : x ≠ q) : x ∉ [p, q] := by simp [h1, h2]
theorem sep_new {n a b : Nat} (ha : a < n) (hb : b < n) : ZipSep2 (n + 4) (n + 2) (n + 3) n (n + 1) [n, a] [n + 1, b] where
  TIz := by simp
  TOz := by simp
  TITO := by simp
  TIi1 := by simp
  mem1 := by simp
  zf1 := not_pair (by omega) (by omega)
  Tf1 := not_pair (by omega) (by omega)
  TIi2 := by simp
  mem2 := by simp
  zf2 := not_pair (by omega) (by omega)
  Tf2 := not_pair (by omega) (by omega)
  sep1_2 := not_pair (by omega) (by omega)
  sep2_1 := not_pair (by omega) (by omega)
def iZm (K : PySem.W.Frag) (ta : TA) : TI := fun σ H R => ta σ H fun vs H1 => ∃ a b xs ys, vs = [.ref a, .ref b] ∧ SqT K H1 a xs ∧ SqL K H1 b ys ∧ R (Izm K a b) H1
theorem pi_mz {X : Cx} {e e2 : Expr} {ta : TA} {p pos tpos : Pos} {elts : List Expr} {kk : Nat} (hg : Gl X "zip") (hm : X.mg "zip" = none) (ha : PA X [e, e2] ta)
    (st : starEach [e, e2] X.env = (false, eval e X.env) :: starEach [e2] X.env := by rfl) (pl : (backTo pos (starEach [e2] X.env)).any (·.1) = false := by rfl) :
    PI X (.Tuple elts kk tpos) (.Call (.Name "zip" p) [e, e2] [] pos) (iZm X.K ta) := by
  refine ⟨fun pins s σ H R I h => ?_⟩
  refine Call_ (ld_blt I hg hm PyProof.Rows.boot_zip (PyProof.Rows.callWith_type1 (thn (ha.run pos pins s σ H _ I h) fun us s1 ⟨vs, H1, I1, r1, a, b, xs, ys, ex, qx, qy, q⟩ => ?_) st pl))
  subst ex
  cases r1 with
  | cons r rr =>
    cases rr with
    | cons r' rr =>
      cases rr
      cases r
      cases r'
      obtain ⟨us, rv, p1, _⟩ := I1.tuple qx
      obtain ⟨ws, rv2, p2, _⟩ := I1.list qy
      have pa : s1.heap.IsTuple a us.toArray := p1
      have la : a < s1.heap.objs.size := by obtain ⟨o, ho, _⟩ := pa; exact Heap.lt_size ho
      refine call_mz pa p2.isList fun h' z' ti' to' j1 j2 hk => wpAny_pyIter_zip z' ?_
      have I2 : Inv X pins σ H1 { s1 with heap := h' } := I1.kept (t' := s1.toks) hk
      refine ⟨s1.heap.objs.size + 4, [s1.heap.objs.size + 4, s1.heap.objs.size + 2, s1.heap.objs.size + 3, s1.heap.objs.size, s1.heap.objs.size + 1], _, _, H1, rfl, I2, turn_mz (sep_new la p2.lt), ⟨z', ti', ⟨_, _, to'⟩, j1, j2⟩, fun c hc => ?_, q⟩
      have hle : s1.heap.objs.size ≤ c := by
        rcases (show c = s1.heap.objs.size + 4 ∨ c = s1.heap.objs.size + 2 ∨ c = s1.heap.objs.size + 3 ∨ c = s1.heap.objs.size ∨ c = s1.heap.objs.size + 1 by simpa using hc) with z | z | z | z | z
        all_goals rw [z]
        · exact Nat.le_add_right _ 4
        · exact Nat.le_add_right _ 2
        · exact Nat.le_add_right _ 3
        · exact Nat.le_refl _
        · exact Nat.le_add_right _ 1
      exact I1.fpOk hle (I1.hok.fresh hle)
theorem walk_mz {K : PySem.W.Frag} {a b : Addr} {xs ys : List V} {n : Nat} (hn : n = min xs.length ys.length) : Walk (Izm K a b) n (fun H => SqT K H a xs ∧ SqL K H b ys) (YPair (fun i => xs[i]?) (fun i => ys[i]?)) := by
  subst hn
  refine ⟨fun i _ hi q => ?_, fun _ q => ⟨xs, ys, q.1, q.2, by omega, by omega, by omega⟩, fun i H v H' _ q y => ?_⟩
  · have h1 : i < xs.length := by omega
    have h2 : i < ys.length := by omega
    exact ⟨xs, ys, xs[i], ys[i], q.1, q.2, by simp [h1], by simp [h2]⟩
  · obtain ⟨T, x, z, h1, h2, h3, h4, h5⟩ := y
    exact ⟨T, x, z, h1, h2, h3, h4 xs q.1, h5 ys q.2⟩
end Fv


set_option Elab.async false
set_option linter.all false
set_option maxRecDepth 100000
set_option maxHeartbeats 1000000
/-! own rule: for (x, y), c in d.items() over a dict whose keys are tuples (locked) -/
namespace Fv
open PySem PySem.Spec PyProof.Rows L2
/-- at each turn a new pair of the key's own tuple and the value -/
def Itit (d : Addr) (o : Obj) (kvs : List (List Key × V)) : It where
  go i G := G d = some (.frz o (.dT kvs)) ∧ i < kvs.length
  yld i G u G2 := ∃ (N kq : Addr) (kk : List Key) (val : V), kvs[i]? = some (kk, val) ∧ u = .ref N ∧ G N = none ∧ G kq = some (.tup (kk.map kV)) ∧ G2 = upd G N (.tup [.ref kq, val])
  stop i G := G d = some (.frz o (.dT kvs)) ∧ kvs.length ≤ i
section
variable {X : Cx} {pins : List (Addr × Obj)} {σ : L2.St} {H : Hp} {s : Shared} {d : Addr} {o : Obj}
theorem frzV {kvs : List (List Key × V)} (I : Inv X pins σ H s) (h : H d = some (.frz o (.dT kvs))) :
    (d == sysModules) = false ∧ ∃ (es : Array DictEntry) (ep : Nat), o.data = .dict es ep ∧ s.heap.DictRaw d es ep ∧ es.size = kvs.length ∧
      ∀ (i : Nat) (k : List Key) (v : V), kvs[i]? = some (k, v) → ∃ (en : DictEntry) (q : Addr), es[i]? = some en ∧ en.key = .ref q ∧ H q = some (.tup (k.map kV)) ∧ RelV v en.val := by
  obtain ⟨atd, _, notsys, rows, pairs, ob, es, ep, get, exact_, dat, ents, _⟩ := I.hok d _ h
  rw [atd] at get
  cases get
  refine ⟨notsys, es, ep, dat, ⟨_, atd, exact_, dat⟩, ?_, fun i k v e => ?_⟩
  · have a1 : es.size = rows.length := size_of_entries ents
    have a2 : kvs.length = rows.length := Paired.length pairs
    omega
  · obtain ⟨row, hrow, r1, r2, r3⟩ := L2.paired_get pairs e
    have at_i := entry_at ents i
    rw [hrow] at at_i
    exact ⟨_, row.2.1, at_i, rfl, r2, r3⟩
end
section
variable {P : Program} {w : World} {K : PySem.W.Frag} {d : Addr} {o : Obj} {es : Array DictEntry} {ep : Nat}
theorem turn_itemsT {kvs : List (List Key × V)} {parts : List Expr} {ctx : Nat} {at_ : Pos} (it : Addr) (hod : o.data = .dict es ep) :
    Turn P w K (.Tuple parts ctx at_) (Itit d o kvs) [it] it (fun i h => ∃ u v, IsItemIter h it d i kvs.length ep u v) where
  mem := by simp
  obj := fun i h st c hc => by
    obtain rfl : c = it := by simpa using hc
    obtain ⟨u, v, e⟩ := st
    exact ⟨_, e, fun _ z => nomatch z⟩
  keep := fun i h h' st k => by
    obtain ⟨u, v, e⟩ := st
    exact ⟨u, v, k it (by simp) _ e⟩
  item := by
    rintro X rfl rfl rfl calm i pins s σ H E I hf st ⟨atd, lt⟩
    obtain ⟨notsys, es2, ep2, dat, raw, size, ent⟩ := frzV I atd
    obtain ⟨rfl, rfl⟩ := dict_ep hod dat
    obtain ⟨⟨k, v⟩, hkv⟩ : ∃ e, kvs[i]? = some e := ⟨kvs[i], List.getElem?_eq_getElem lt⟩
    obtain ⟨en, q, hen, hkey, hq, hv⟩ := ent i k v hkv
    obtain ⟨u0, v0, he⟩ := st
    rw [← size] at he
    have small : it < s.heap.objs.size := Heap.lt_size he
    obtain ⟨hi, een⟩ := Array.getElem?_eq_some_iff.mp hen
    refine wpAny_pyNext_items_item_raw he raw hi fun h1 out tup sz old => ?_
    rw [een] at out tup
    rw [hkey] at out tup
    refine ⟨_, rfl, wpAny_letOwnedTupleGo_items (s := { s with heap := h1 }) out fun h2 inn but => ?_⟩
    have tup2 := (but.2 _ (Nat.ne_of_gt small)).trans tup
    have fresh : H s.heap.objs.size = none := I.hok.fresh (Nat.le_refl _)
    have obj_ : ObjOk X.prog X.w (upd H s.heap.objs.size (.tup [.ref q, v])) h2 s.heap.objs.size (.tup [.ref q, v]) :=
      ⟨by show 2 ≤ sizeLine; decide, [.ref q, en.val], .cons rfl (.cons hv .nil), ⟨_, tup2, rfl, _, rfl⟩⟩
    have inv2 : Inv X pins σ (upd H s.heap.objs.size (.tup [.ref q, v])) { s with heap := h2 } :=
      I.turnedNew (t' := s.toks) (ch := [it]) (fun c ob hc e => (but.2 c (by simpa using hc)).trans (old c ob (by simpa using hc) e)) hf (Nat.le_refl _) obj_
    refine ⟨.ref s.heap.objs.size, _, inv2, rfl, ⟨_, q, k, v, hkv, rfl, fresh, hq, rfl⟩, ⟨_, _, by rw [← size]; exact inn⟩, fun c hc => ?_⟩
    obtain rfl : c = it := by simpa using hc
    rw [upd_ne (Nat.ne_of_lt small)]
    exact (hf c (by simp)).1
  done := by
    rintro X rfl rfl rfl calm i pins s σ H E I hf st ⟨atd, le⟩
    obtain ⟨f0, f1, f2, f3, f4, f5⟩ := hf it (by simp)
    obtain ⟨notsys, es2, ep2, dat, raw, size, ent⟩ := frzV I atd
    obtain ⟨rfl, rfl⟩ := dict_ep hod dat
    obtain ⟨u0, v0, he⟩ := st
    rw [← size] at he
    exact wpAny_pyNext_items_end_raw (I.ok.hd calm) he raw (by omega) fun h1 eb => ⟨rfl, I.turned (t' := s.toks) (fun c ob hc e => eb c ob hc e) f0 f1 f3 f4 f5⟩
  self := fun A i s Q E st h => by
    obtain ⟨_, _, e⟩ := st
    exact PySem.W.kcp_self e h
end
def iItemsT (td : TE) : TI := fun σ H R => td σ H fun u G => ∃ d o kvs, u = .ref d ∧ G d = some (.frz o (.dT kvs)) ∧ R (Itit d o kvs) G
section
variable {X : Cx} {dict : Expr} {td : TE} {pa pc : Pos}
theorem pi_itemsT {parts : List Expr} {ctx : Nat} {at_ : Pos} (he : PE X dict td) (base : attributeBase dict "items" X.env (eval dict X.env) = eval dict X.env := by rfl) (line : (pa.endLine == pc.line) = true := by rfl) :
    PI X (.Tuple parts ctx at_) (.Call (.Attribute dict "items" pa) [] [] pc) (iItemsT td) := by
  constructor
  intro pins s σ H R I h
  refine wpAny_Call_method base rfl line F.plainAttrs_dict F.slot_dict_items F.type_dict_items (thn (he.run pins s σ H _ I h) ?_)
  rintro u s1 ⟨x, G, I1, rel, d, o, kvs, rfl, atd, more⟩
  obtain rfl : u = Value.ref d := rel
  obtain ⟨notsys, es, ep, dat, raw, size, ent⟩ := frzV I1 atd
  obtain ⟨ty_, nodict, _⟩ := isD_at I1 (.inr ⟨kvs, .inr ⟨o, atd⟩⟩)
  refine ⟨ty_, nodict, ?_⟩
  have up : ∀ (c : Addr) ob, s1.heap.get? c = some ob → (s1.heap.push { cls := .type "dict_items", data := .fields #[.ref d] }).get? c = some ob := fun c ob e => Heap.get?_push_of_some _ e
  have I2 : Inv X pins σ G { s1 with heap := s1.heap.push { cls := .type "dict_items", data := .fields #[.ref d] } } := I1.kept (t' := s1.toks) up
  have last : wpAny (model X.prog X.w) X.A (pyIter (.ref s1.heap.objs.size)) (PIE X pins σ (.Tuple parts ctx at_) R) X.xe { s1 with heap := s1.heap.push { cls := .type "dict_items", data := .fields #[.ref d] } } := by
    refine wpAny_pyIter_items_raw (d := d) (es := es) (ep := ep) ⟨_, Heap.get?_push_size _ rfl, rfl, rfl⟩ (raw.at (up d)) (pi_one (tk := s1.toks) I2 _ (turn_itemsT _ dat) ⟨.none, .none, ?_⟩ more)
    rw [← size]
    exact Heap.get?_push_size _ rfl
  show wpAny _ _ (callWith pc (.builtin "dict.items") [.ref d] [] []) _ X.xe s1
  exact method_meetsIn F.slot_dict_items F.entry_dict_items rfl (PySem.evalArgs_none ⟨rfl, ty_, F.args_dict_items_1 _, _, meets_dict_items_raw d notsys, ⟨es, ep, raw⟩, last⟩)
theorem walk_itemsT {d : Addr} {o : Obj} {kvs : List (List Key × V)} : Walk (Itit d o kvs) kvs.length (fun G => G d = some (.frz o (.dT kvs)))
    (fun i G u G2 => ∃ (N kq : Addr) (kk : List Key) (val : V), kvs[i]? = some (kk, val) ∧ u = .ref N ∧ G N = none ∧ G kq = some (.tup (kk.map kV)) ∧ G2 = upd G N (.tup [.ref kq, val])) :=
  ⟨fun _ _ lt e => ⟨e, lt⟩, fun _ e => ⟨e, Nat.le_refl _⟩, fun _ _ _ _ _ _ e => e⟩
end
end Fv


set_option Elab.async false
set_option linter.all false
set_option maxRecDepth 100000
set_option maxHeartbeats 4000000
namespace Fv
open PySem PySem.Spec PyProof.Rows L2
/-! ### Facts that stand: their greatest -/
abbrev sGreatest : Stmt := inClass (top 18) 2
abbrev sCheckM : Stmt := inClass (top 18) 10
structure FacC (K : PySem.W.Frag) (C : Addr) : Prop where
  cl : Cls K C
  n1 : NoAttr K C "_names"
  n2 : NoAttr K C "_table"
/-- at x stands a Facts over the names (at n), whose table is T -/
def FacAtN (C : Addr) (H : Hp) (x n : Addr) (zs : List Str) (T : M.Tb Str) : Prop :=
  ∃ (dx q : Addr) (kvs : List (List Key × V)), H x = some (.ins C dx [(("_names" : Str), .ref n), (("_table" : Str), .ref q)]) ∧
    H n = some (.lst (zs.map V.str)) ∧ zs.length ≤ 60 ∧ H q = some (.dT kvs) ∧ TbL kvs T
def FacAt (C : Addr) (H : Hp) (x : Addr) (zs : List Str) (T : M.Tb Str) : Prop := ∃ n, FacAtN C H x n zs T
/-- things that are no lists, and the names, stand -/
theorem FacAtN.keep {C : Addr} {H H' : Hp} {x n : Addr} {zs : List Str} {T : M.Tb Str} (h : FacAtN C H x n zs T) (s : ∀ a o, (∀ ys, o = .lst ys → a = n) → H a = some o → H' a = some o) : FacAtN C H' x n zs T := by
  obtain ⟨dx, q, kvs, h1, h4, h5, h6, h7⟩ := h
  exact ⟨dx, q, kvs, s _ _ (fun _ z => nomatch z) h1, s _ _ (fun _ _ => rfl) h4, h5, s _ _ (fun _ z => nomatch z) h6, h7⟩
theorem FacAt.same {C : Addr} {H H' : Hp} {x : Addr} {zs : List Str} {T : M.Tb Str} (h : FacAt C H x zs T) (s : Same H H') : FacAt C H' x zs T := by
  obtain ⟨n, h⟩ := h
  exact ⟨n, h.keep fun a o _ e => s a o e⟩
theorem fac_made {n q : Addr} : putF "_table" (.ref q) (putF "_names" (.ref n) []) = [(("_names" : Str), V.ref n), (("_table" : Str), V.ref q)] := rfl
def SrcIn (zs : List Str) (u : Str) : Prop := u = "" ∨ u ∈ zs
def spCheckM (C : Addr) : Sp := fun vs H Q _ => ∃ (x : Addr) (zs : List Str) (T : M.Tb Str) (u v : Str), vs = [.ref x, .str u, .str v] ∧ FacAt C H x zs T ∧ SrcIn zs u ∧ SrcIn zs v ∧ ∀ H', Same H H' → Q .non H'
def optV : Option Int → V
  | none => .str "endless"
  | some g => .int g
def grV (T : M.Tb Str) (u v : Str) : V := if u = v then .int 0 else optV (T u v)
def spGr (C : Addr) : Sp := fun vs H Q _ => ∃ (x : Addr) (zs : List Str) (T : M.Tb Str) (u v : Str), vs = [.ref x, .str u, .str v] ∧ FacAt C H x zs T ∧ SrcIn zs u ∧ SrcIn zs v ∧ ∀ H', Same H H' → Q (grV T u v) H'
section
variable {P : Program} {w : World} {K : PySem.W.Frag} {mg : Str → Option Value} {base : Heap} {C : Addr}
theorem scCm : FnScope ["self", "x", "y"] ["self", "x", "y"] (defScope sCheckM) := ⟨rfl, rfl, rfl, by decide +kernel, rfl, by decide +kernel, by decide +kernel⟩
theorem ok_checkm {f fS : Addr} {fd fdS : FuncData} (T : FacC K C) (F : Fun K "_check" "Facts._check" sCheckM f fd)
    (GS : FnOk P w K mg base CX0 1 fS fdS ["names", "facts"] spChkS) (bS : Binds K fdS ["names", "facts"] []) (mS : mg "_check_sources" = some (.ref fS)) (kS : PySem.W.keepIn K (.ref fS) = true) :
    FnOk P w K mg base CX0 2 f fd ["self", "x", "y"] (spCheckM C) := by
  refine F.ok scCm (fun vs H Q E h => ?_) (fun cdv A outer s H vs Q E hr h => ?_)
  · obtain ⟨x, zs, T0, u, v, rfl, _⟩ := h
    rfl
  · obtain ⟨x, zs, T0, u, v, rfl, ⟨n, dx, q0, kvs, h1, h4, h5, h6, h7⟩, su, sv, q⟩ := h
    refine ⟨_, pss_one (ps_expr (pe_call GS hr (by rfl) mS kS bS .nil pass0 (pa_cons (pe_fld (pv 0) rfl) (pa_cons (pe_lst (pa_cons (pe_tup (pa_cons (pv 1) (pa_cons (pv 2) (pa_cons pe_int pa_nil)))) pa_nil)) pa_nil)))), ?_⟩
    refine ⟨_, rfl, x, C, dx, _, _, rfl, h1, T.cl, T.n1, rfl, _, rfl, _, rfl, by show 3 ≤ sizeLine; decide, fun t nt => ?_⟩
    have s1 := same_upd (o := .tup [.str u, .str v, .int 0]) nt
    refine ⟨by show 1 ≤ sizeLine; decide, fun l nl => ?_⟩
    have s2 := s1.trans (same_upd (o := .lst [.ref t]) nl)
    refine ⟨n, l, zs, [.ref t], [(u, v, 0)], rfl, s2 _ _ h4, h5, upd_same, ⟨rfl, fun i x e => ?_⟩, fun f hf => ?_, fun H' s' => q H' (s2.trans s')⟩
    · match i, e with
      | 0, e =>
        cases e
        exact ⟨_, rfl, t, rfl, by rw [upd_ne (ne_of_none upd_same nl)]; exact upd_same⟩
    · rw [List.mem_singleton.mp hf]
      exact ⟨su, sv⟩
theorem scGr : FnScope ["self", "x", "y"] ["self", "x", "y"] (defScope sGreatest) := ⟨rfl, rfl, rfl, by decide +kernel, rfl, by decide +kernel, by decide +kernel⟩
theorem ok_greatest {f fc : Addr} {fd fdc : FuncData} (T : FacC K C) (F : Fun K "greatest" "Facts.greatest" sGreatest f fd)
    (Mc : Meth K C "_check" fc) (Gc : FnOk P w K mg base CX0 2 fc fdc ["self", "x", "y"] (spCheckM C)) (bc : Binds K fdc ["self", "x", "y"] []) :
    FnOk P w K mg base CX0 3 f fd ["self", "x", "y"] (spGr C) := by
  refine F.ok scGr (fun vs H Q E h => ?_) (fun cdv A outer s H vs Q E hr h => ?_)
  · obtain ⟨x, zs, T0, u, v, rfl, _⟩ := h
    rfl
  · obtain ⟨x, zs, T0, u, v, rfl, FA, su, sv, q⟩ := h
    have hu := hu_of hr
    refine ⟨_, pss_cons (ps_expr (pe_meth (pv 0) T.cl Mc Gc hr bc .nil pass0 (pa_cons (pv 1) (pa_cons (pv 2) pa_nil))))
      (pss_cons (ps_if (pt_cmpR op_eq (pv 1) (pv 2) (nomark _)) (pss_one (ps_ret pe_int)) pss_nil)
      (pss_one (ps_ret (pe_dget2 hu (pe_fld (pv 0) rfl) (pe_tup (pa_cons (pv 1) (pa_cons (pv 2) pa_nil))) pe_str ⟨rfl, rfl, rfl, rfl⟩)))), ?_⟩
    obtain ⟨n, dx, q0, kvs, h1, h4, h5, h6, h7⟩ := id FA
    refine ⟨_, rfl, x, dx, _, rfl, h1, rfl, _, rfl, _, rfl, x, zs, T0, u, v, rfl, FA, su, sv, fun H1 s1 => ?_⟩
    refine ⟨_, rfl, _, rfl, rfl, _, rfl, ite2 (fun e => ?_) (fun e => ?_)⟩
    · have euv : u = v := V.str.inj (of_decide_eq_true e)
      have q1 := q H1 s1
      unfold grV at q1
      rw [if_pos euv] at q1
      exact q1
    · have nuv : u ≠ v := fun z => e (decide_eq_true (by rw [z]))
      refine ⟨_, rfl, x, C, dx, _, _, rfl, s1 _ _ h1, T.cl, T.n2, rfl, q0, rfl, .inr ⟨kvs, .inl (s1 _ _ h6)⟩, _, rfl, _, rfl, by show 2 ≤ sizeLine; decide, fun t nt => ?_⟩
      have s2 := s1.trans (same_upd (o := .tup [.str u, .str v]) nt)
      refine ⟨_, DGet.t (k := kP u v) (s2 _ _ h6) upd_same, ?_⟩
      rw [h7.val]
      have q1 := q _ s2
      unfold grV at q1
      rw [if_neg nuv] at q1
      cases eT : T0 u v with
      | none => rw [eT] at q1; exact q1
      | some g => rw [eT] at q1; exact q1
end
end Fv


set_option Elab.async false
set_option linter.all false
set_option maxRecDepth 100000
set_option maxHeartbeats 2000000
/-! & of two sets of texts -/
namespace Fv
open PySem PySem.Spec PyProof.Rows L2
section
variable {P : Program} {w : World} {A : Around} {E : Value → Shared → Prop} {s : Shared}
theorem quiet_ok {sets : List Addr} {Q : Bool → Shared → Prop} (h : ∀ a ∈ sets, ∃ L, TxtS P w s.heap a L) (q : Q true s) : wpAny (model P w) A (setsQuiet sets) Q E s := by
  unfold setsQuiet
  refine wpAny_bind (wpAny_forIn_list _ (fun rest b s' => b = (none, ()) ∧ s' = s ∧ ∀ a ∈ rest, ∃ L, TxtS P w s.heap a L) _ ?_ ?_ _ _ ⟨rfl, rfl, h⟩)
  · rintro a rest b s' ⟨rfl, rfl, hr⟩
    obtain ⟨L, o, es, ep, t, T⟩ := hr a List.mem_cons_self
    unfold setEntries
    refine wpAny_bind (wpAny_bind (wpAny_setState_of T.get T.data T.fit (wpAny_pure ?_)))
    dsimp only
    refine wpAny_bind (wpAny_forIn_array' _ (fun rest b s2 => b = (none, ()) ∧ s2 = s' ∧ ∀ e ∈ rest, TxE P w e) _ ?_ ?_ _ _ ⟨rfl, rfl, T.good⟩)
    · rintro ⟨n, x⟩ rest2 b s2 ⟨rfl, rfl, he⟩
      obtain ⟨k, tk, hx, _⟩ := he _ List.mem_cons_self
      dsimp only at hx
      subst hx
      exact wpAny_pure ⟨rfl, rfl, fun e m => he e (List.mem_cons_of_mem _ m)⟩
    · rintro b s2 ⟨rfl, rfl, _⟩
      exact wpAny_pure ⟨rfl, rfl, fun c m => hr c (List.mem_cons_of_mem _ m)⟩
  · rintro b s' ⟨rfl, rfl, _⟩
    exact wpAny_pure q
/-- a walk that is not drawn -/
theorem tx_walk {a : Addr} {L : List Str} {o : Obj} {es : Array (Int × Value)} {ep : Nat} {t : SetTable} {Q : Array (Int × Value) → Shared → Prop} (T : TxS P w s.heap a L o es ep t)
    (hd : w.params.followText "set-order" = true ∨ t.plain = true ∨ es.size ≤ 1) (q : ∀ fs, fs.toList.Perm es.toList → Q fs s) : wpAny (model P w) A (setWalk a) Q E s := by
  unfold setWalk
  refine wpAny_bind (wpAny_setState_of T.get T.data T.fit ?_)
  dsimp only
  refine wpAny_bind (wpAny_byText ?_)
  cases hb : w.params.followText "set-order" with
  | true =>
    refine wp_if_pos rfl (wpAny_bind (wpAny_askSetting (wpAny_pure ?_)))
    exact q _ (pick_perm (w.params.setOrder a ep) es)
  | false =>
    rw [hb] at hd
    have hd2 := hd.resolve_left (by simp)
    have led := T.led.resolve_left (by rw [hb]; simp)
    refine wp_if_neg Bool.false_ne_true ?_
    try refine wpAny_bind (wpAny_pure ?_)
    refine wp_if_neg (by
      show ¬ ((!t.plain && decide (es.size > 1)) = true)
      rcases hd2 with h | h
      · simp [h]
      · simp; intro _; omega) ?_
    try refine wpAny_bind (wpAny_pure ?_)
    refine wpAny_bind (wpAny_of_eq (a := ()) (by show (if (!t.led && decide (es.size > 1)) = true then unsupported _ else pure ()) = pure (); simp [led]) ?_)
    exact wpAny_pure (q es (List.Perm.refl _))
theorem tx_unseen {a b r : Addr} {L M : List Str} {N : List Str} {o : Obj} {es : Array (Int × Value)} {ep : Nat} {t : SetTable} {Q : Array (Int × Value) → Shared → Prop} (T : TxS P w s.heap a L o es ep t) (Rb : TxtS P w s.heap b M) (Rr : TxtS P w s.heap r N)
    (q : ∀ fs h', fs.toList.Perm es.toList → Heap.SameBut r s.heap h' → TxtS P w h' r N → Q fs { s with heap := h' }) : wpAny (model P w) A (setWalkUnseen a [b, r] (some r)) Q E s := by
  have q0 : ∀ fs, fs.toList.Perm es.toList → Q fs s := fun fs hp => q fs s.heap hp (Heap.SameBut.refl _ _) Rr
  unfold setWalkUnseen
  refine wpAny_bind (wpAny_setState_of T.get T.data T.fit ?_)
  dsimp only
  refine wpAny_bind (wpAny_byText ?_)
  by_cases hc : (w.params.followText "set-order" || t.led && t.plain || decide (es.size ≤ 1)) = true
  · rw [if_pos hc]
    refine tx_walk T ?_ q0
    simp only [Bool.or_eq_true, Bool.and_eq_true, decide_eq_true_eq] at hc
    rcases hc with (h | h) | h
    · exact .inl h
    · exact .inr (.inl h.2)
    · exact .inr (.inr h)
  · rw [if_neg hc]
    refine wpAny_bind (quiet_ok (fun c m => ?_) ?_)
    · simp only [List.mem_cons, List.not_mem_nil, or_false] at m
      rcases m with rfl | rfl | rfl
      · exact ⟨L, o, es, ep, t, T⟩
      · exact ⟨M, Rb⟩
      · exact ⟨N, Rr⟩
    have nb : w.params.followText "set-order" = false := by
      cases h : w.params.followText "set-order"
      · rfl
      · simp [h] at hc
    have led : t.led = true := T.led.resolve_left (by rw [nb]; simp)
    refine wp_if_neg (by simp) ?_
    refine wpAny_bind (wpAny_rule ?_)
    obtain ⟨o2, es2, ep2, t2, T2⟩ := id Rr
    refine wpAny_bind (wpAny_setState_of T2.get T2.data T2.fit ?_)
    dsimp only
    by_cases hd : (t2.led && !t.led || t2.plain && !t.plain) = true
    · rw [if_pos hd]
      have T3 := TxS.stored (P := P) (t' := { t2 with led := t2.led && t.led, plain := t2.plain && t.plain }) T2.get T2.ex T2.data T2.good T2.perm T2.nodup T2.few (by have := T2.fit; exact this) (by have := T2.ris; exact this) (.inr (by
        show (t2.led && t.led) = true
        rw [led, T2.led.resolve_left (by rw [nb]; simp)]
        rfl))
      exact wpAny_bind (wpAny_storeSet_of T2.get T2.data (wpAny_pure (q es _ (List.Perm.refl _) (Heap.SameBut.update _ _ _) ⟨_, _, _, _, T3⟩)) (fits_of_scanBound T2.few))
    · rw [if_neg hd]
      exact wpAny_pure (q0 es (List.Perm.refl _))
theorem TxtS.nodup {h : Heap} {a : Addr} {L : List Str} (R : TxtS P w h a L) : L.Nodup := by
  obtain ⟨o, es, ep, t, T⟩ := R
  exact T.nodup
theorem mem_insL {L : List Str} {k x : Str} : x ∈ insL L k ↔ x ∈ L ∨ x = k := by
  unfold insL
  split
  · rename_i h
    exact ⟨.inl, fun z => z.elim id fun e => e ▸ h⟩
  · rw [List.mem_append, List.mem_singleton]
theorem insL_le (L : List Str) (k : Str) : (insL L k).length ≤ L.length + 1 := by
  unfold insL
  split
  · omega
  · rw [List.length_append]
    exact Nat.le_refl _
/-- the turns -/
theorem meet_loop {id : String} {x y r : Addr} {W V : List Str} {o : Obj} {es fs : Array (Int × Value)} {ep : Nat} {t : SetTable} {Q : PUnit → Shared → Prop} (hx : x ≠ r) (hy : y ≠ r) (T : TxS P w s.heap x W o es ep t) (Ry : TxtS P w s.heap y V) (Rr : TxtS P w s.heap r [])
    (hp : fs.toList.Perm es.toList) (q : ∀ h' N, Heap.SameBut r s.heap h' → (∀ k, k ∈ N ↔ k ∈ V ∧ k ∈ W) → TxtS P w h' r N → Q ⟨⟩ { s with heap := h' }) :
    wpAny (model P w) A (forIn fs PUnit.unit fun z (_ : PUnit) =>
      match z with
      | (h, v) => do
        holding [v] do
            let f ← setFind y v h
            if f.isSome = true then do
                let _ ← setAddHashed r v h
                pure ()
              else pure ()
        Builtin.Frozenset.unchanged id x ep
        pure (ForInStep.yield PUnit.unit)) Q E s := by
  have good : ∀ e ∈ fs.toList, TxE P w e := fun e he => T.good e (hp.mem_iff.mp he)
  have pW : (fs.toList.map txtOf).Perm W := (hp.map txtOf).trans T.perm
  have few : fs.toList.length < scanBound := by rw [hp.length_eq, Array.length_toList]; exact T.few
  refine wpAny_forIn_array' _ (fun rest _ s' => ∃ (dn : List (Int × Value)) (N : List Str) (h' : Heap), dn ++ rest = fs.toList ∧ s' = { s with heap := h' } ∧ Heap.SameBut r s.heap h' ∧ TxtS P w h' r N ∧ N.length ≤ dn.length ∧ ∀ k, k ∈ N ↔ k ∈ V ∧ k ∈ dn.map txtOf) _ ?_ ?_ _ _
    ⟨[], [], s.heap, rfl, rfl, Heap.SameBut.refl _ _, Rr, Nat.le_refl _, fun k => by simp⟩
  · rintro ⟨h, v⟩ rest _ s' ⟨dn, N, h', e, rfl, sb, R, hl, hm⟩
    have hmem : (h, v) ∈ fs.toList := by rw [← e]; simp
    obtain ⟨k, tk, hv, hh⟩ := good _ hmem
    dsimp only at hv hh
    subst hv
    subst hh
    have Ry' : TxtS P w h' y V := Ry.at fun o e => (sb.2 y hy).trans e
    have Tx' : h'.get? x = some o := (sb.2 x hx).trans T.get
    have et : txtOf ((strKind P w).hash k, Value.str k tk) = k := rfl
    have hlen : dn.length + (rest.length + 1) = fs.toList.length := by rw [← e, List.length_append, List.length_cons]
    dsimp only
    have fin : ∀ {s2 : Shared} {N' : List Str} {h2 : Heap} {Post : ForInStep PUnit → Shared → Prop}, s2 = { s with heap := h2 } → Heap.SameBut r s.heap h2 → TxtS P w h2 r N' → N'.length ≤ dn.length + 1 → (∀ z, z ∈ N' ↔ z ∈ V ∧ (z ∈ dn.map txtOf ∨ z = k)) →
        ((∃ (dn : List (Int × Value)) (N : List Str) (h' : Heap), dn ++ rest = fs.toList ∧ s2 = { s with heap := h' } ∧ Heap.SameBut r s.heap h' ∧ TxtS P w h' r N ∧ N.length ≤ dn.length ∧ ∀ k, k ∈ N ↔ k ∈ V ∧ k ∈ dn.map txtOf) → Post (.yield PUnit.unit) s2) →
        wpAny (model P w) A (do
          Builtin.Frozenset.unchanged id x ep
          pure (ForInStep.yield PUnit.unit)) Post E s2 := fun {s2 N' h2 Post} e2 sb2 R2 l2 m2 post => by
      subst e2
      unfold Builtin.Frozenset.unchanged
      refine wpAny_bind (wpAny_bind (wpAny_setEpoch_of ((sb2.2 x hx).trans T.get) T.data T.fit ?_))
      refine wp_if_neg (by simp) (wpAny_pure (wpAny_pure (post ?_)))
      refine ⟨dn ++ [((strKind P w).hash k, Value.str k tk)], N', h2, by rw [← e, List.append_assoc]; rfl, rfl, sb2, R2, by rw [List.length_append]; exact l2, fun z => ?_⟩
      rw [m2, List.map_append, List.mem_append, List.map_cons, List.map_nil, List.mem_singleton, et]
    refine wpAny_bind (wpAny_holding (wpAny_bind (wpAny_setFind_of (knd := strKind P w) (k := k) (strKind_is _ _ _ _) rfl Ry'.setOf fun f hf => ?_)))
    by_cases hk : k ∈ V
    · have f1 : f.isSome = true := by rw [hf, decide_eq_true hk]
      rw [if_pos f1]
      refine wpAny_bind (tx_hashed (s := { s with heap := h' }) R (by omega) fun h2 sb2 R2 => wpAny_pure ?_)
      refine fin rfl (sb.trans sb2) R2 (Nat.le_trans (insL_le _ _) (by omega)) (fun z => ?_) fun q => q
      rw [mem_insL, hm]
      constructor
      · rintro (⟨a1, a2⟩ | rfl)
        · exact ⟨a1, .inl a2⟩
        · exact ⟨hk, .inr rfl⟩
      · rintro ⟨a1, a2 | rfl⟩
        · exact .inl ⟨a1, a2⟩
        · exact .inr rfl
    · have f1 : ¬ f.isSome = true := by rw [hf, decide_eq_false hk]; simp
      rw [if_neg f1]
      refine wpAny_pure (fin rfl sb R (by omega) (fun z => ?_) fun q => q)
      rw [hm]
      constructor
      · rintro ⟨a1, a2⟩
        exact ⟨a1, .inl a2⟩
      · rintro ⟨a1, a2 | rfl⟩
        · exact ⟨a1, a2⟩
        · exact absurd a1 hk
  · rintro _ s' ⟨dn, N, h', e, rfl, sb, R, hl, hm⟩
    rw [List.append_nil] at e
    subst e
    exact q h' N sb (fun k => by rw [hm, pW.mem_iff]) R
/-- what is in both -/
theorem tx_meetL {a b : Addr} {L M : List Str} {Q : Value → Shared → Prop} (hne : a ≠ b) (Ra : TxtS P w s.heap a L) (Rb : TxtS P w s.heap b M)
    (hQ : ∀ h' N, N.Nodup → (∀ k, k ∈ N ↔ k ∈ L ∧ k ∈ M) → TxtS P w h' s.heap.objs.size N → (∀ c u, s.heap.get? c = some u → h'.get? c = some u) → Q (.ref s.heap.objs.size) { s with heap := h' }) :
    wpAny (model P w) A (binaryOp .BitAnd (.ref a) (.ref b)) Q E s := by
  obtain ⟨oa, ea, pa, ta, Ta⟩ := Ra
  obtain ⟨ob, eb, pb, tb, Tb⟩ := Rb
  have ya : s.TypeIs (.ref a) "set" := ⟨oa, Ta.get, Ta.ex.1⟩
  have yb : s.TypeIs (.ref b) "set" := ⟨ob, Tb.get, Tb.ex.1⟩
  refine wpAny_binaryOp_same ya yb F.fills_set_and F.slot_set_and (wpAny_call_entry F.slot_set_and ya entry_set_meet ?_ (F.args_set_and_2 _ _))
  show wpAny (model P w) A.in1 (do
    let (self, other) ← Builtin.Frozenset.slot1 "__and__" _
    let (l, r) := if false then (other, self) else (self, other)
    if !(← (Builtin.Frozenset.isAnySet l <&&> Builtin.Frozenset.isAnySet r)) then rule _; return ← ret .notImplemented
    ret (← Builtin.Frozenset.intersection _ (← Builtin.Frozenset.addrOf l) r)) _ _ s
  refine wpAny_bind (m := Builtin.Frozenset.slot1 _ _) (wpAny_of_eq (a := (Value.ref a, Value.ref b)) (by rfl) ?_)
  dsimp only
  refine wpAny_bind (wpAny_bind (any_set ya (any_set yb ?_)))
  refine wp_if_neg (by simp) ?_
  try refine wpAny_bind (wpAny_pure ?_)
  show wpAny (model P w) A.in1 (Builtin.Frozenset.intersection _ a (.ref b) >>= fun v => ret v) _ _ s
  refine wpAny_bind ?_
  unfold Builtin.Frozenset.intersection
  refine wp_if_neg (by simp [Ne.symm hne]) ?_
  try refine wpAny_bind (wpAny_pure ?_)
  unfold Builtin.Frozenset.baseOf
  refine wpAny_bind (wpAny_bind (wpAny_isInstance (b := true) ya sub_set_self (wpAny_pure ?_)))
  refine wpAny_bind (PpSet.newSet_ok ?_)
  have nw := tx_fresh (P := P) (w := w) (h := s.heap)
  have kp : ∀ c u, s.heap.get? c = some u → (s.heap.push { cls := .type "set", dict := none, data := .set #[] 0 (.fresh 0 0 (!w.params.followText "set-order")) }).get? c = some u := fun c u e => Heap.get?_push_of_some _ e
  have Ta' := { Ta with get := kp _ _ Ta.get }
  have Tb' := { Tb with get := kp _ _ Tb.get }
  have aN : a ≠ s.heap.objs.size := Nat.ne_of_lt (Heap.lt_size Ta.get)
  have bN : b ≠ s.heap.objs.size := Nat.ne_of_lt (Heap.lt_size Tb.get)
  unfold Builtin.Frozenset.addrOf
  refine wpAny_bind (wpAny_pure (wpAny_bind (wpAny_holding (wpAny_bind (any_set (a := b) ⟨ob, Tb'.get, Tb.ex.1⟩ (wp_if_pos rfl (wpAny_bind (wpAny_pure ?_))))))))
  unfold Builtin.Frozenset.sizeOf
  refine wpAny_bind (wpAny_bind (wpAny_setEntries_of Tb'.get Tb.data Tb.fit (wpAny_pure ?_)))
  refine wpAny_bind (wpAny_bind (wpAny_setEntries_of Ta'.get Ta.data Ta.fit (wpAny_pure ?_)))
  have go : ∀ {x y : Addr} {W V : List Str} {o : Obj} {es : Array (Int × Value)} {ep : Nat} {t : SetTable} {h0 : Heap} {s0 : Shared}, s0 = { s with heap := h0 } → (∀ c u, s.heap.get? c = some u → h0.get? c = some u) → x ≠ s.heap.objs.size → y ≠ s.heap.objs.size → TxS P w h0 x W o es ep t → TxtS P w h0 y V → TxtS P w h0 s.heap.objs.size [] →
      (∀ k, k ∈ W ∧ k ∈ V ↔ k ∈ L ∧ k ∈ M) → wpAny (model P w) A.in1 (do
      let was ← setEpoch x
      let fs ← setWalkUnseen x [y, s.heap.objs.size] (some s.heap.objs.size)
      forIn fs PUnit.unit fun z (_ : PUnit) =>
        match z with
        | (h, v) => do
          holding [v] do
              let f ← setFind y v h
              if f.isSome = true then do
                  let _ ← setAddHashed s.heap.objs.size v h
                  pure ()
                else pure ()
          Builtin.Frozenset.unchanged (toString "frozenset." ++ toString "__and__") x was
          pure (ForInStep.yield PUnit.unit)
      pure ()) (fun a s' =>
      wpAny (model P w) A.in1 (pure (Value.ref s.heap.objs.size))
        (fun a s' =>
          wpAny (model P w) A.in1 (ret a)
            (fun fin s' => ∃ v, fin = Fin.done (Flow.ret v) ∧ v ≠ Value.notImplemented ∧ Q v s') E s')
        E s')
    E s0 := fun {x y W V o es ep t h0 s0} es0 kp hx hy T Ry Rr hWV => by
    subst es0
    refine wpAny_bind (wpAny_setEpoch_of T.get T.data T.fit (wpAny_bind (tx_unseen T Ry Rr fun fs h1 hp sb R1 => ?_)))
    refine wpAny_bind (meet_loop (s := { s with heap := h1 }) hx hy { T with get := (sb.2 x hx).trans T.get } (Ry.at fun o e => (sb.2 y hy).trans e) R1 hp fun h2 N sb2 hN R2 => ?_)
    refine wpAny_pure (wpAny_pure (wpAny_pure ⟨_, rfl, by simp, hQ h2 N R2.nodup (fun k => by rw [hN, and_comm, hWV]) R2 fun c u e => ?_⟩))
    have cn : c ≠ s.heap.objs.size := Nat.ne_of_lt (Heap.lt_size e)
    exact (sb2.2 c cn).trans ((sb.2 c cn).trans (kp c u e))
  by_cases hz : eb.size > ea.size
  · rw [if_pos hz]
    exact go rfl kp aN bN Ta' ⟨_, _, _, _, Tb'⟩ nw fun k => Iff.rfl
  · rw [if_neg hz]
    exact go rfl kp bN aN Tb' ⟨_, _, _, _, Ta'⟩ nw fun k => and_comm
end
/-- & of two sets of texts: a new one, of what is in both -/
def rMeet (P : Program) (w : World) : R2 := fun x y H Q => ∃ a b L M, x = .ref a ∧ y = .ref b ∧ a ≠ b ∧ H a = some (TxtO P w a L) ∧ H b = some (TxtO P w b M) ∧ ∀ p N, N.Nodup → (∀ k, k ∈ N ↔ k ∈ L ∧ k ∈ M) → H p = none → Q (.ref p) (upd H p (TxtO P w p N))
theorem op_meet {X : Cx} : OpR X (binaryOp .BitAnd) (rMeet X.prog X.w) := by
  intro pins s σ H x y v u Q I rx ry h
  obtain ⟨a, b, L, M, rfl, rfl, ne, ha, hb, q⟩ := h
  cases rx
  cases ry
  refine tx_meetL ne (txtO_get I ha) (txtO_get I hb) fun h' N nd hN R k => ?_
  exact ⟨.ref _, _, I.laid (t' := s.toks) k (Nat.le_refl _) (txtO_new R), rfl, q _ N nd hN (I.hok.fresh (Nat.le_refl _))⟩
end Fv


set_option Elab.async false
set_option linter.all false
set_option maxRecDepth 100000
set_option maxHeartbeats 1000000
/-! walks of comprehensions of any body; things locked and unlocked -/
namespace Fv
open PySem PySem.Spec PyProof.Rows L2
theorem loop_it {J : It} {n : Nat} {G : Hp → Prop} {Y : Nat → Hp → V → Hp → Prop} (wk : Walk J n G Y) {B : (Hp → Prop) → V → Hp → Prop} {H0 : Hp} {Qd : Hp → Prop} (Pv : Nat → Hp → Prop) (h0 : Pv 0 H0) (hG : ∀ i H, i ≤ n → Pv i H → G H)
    (hs : ∀ i x H H', i < n → Pv i H → Y i H x H' → B (Pv (i + 1)) x H') (hd : ∀ H, Pv n H → Qd H) :
    ∃ W : Nat → Nat → Hp → Prop, (∃ m, W 0 m H0) ∧ ∀ i m H, W i m H →
      (J.stop i H ∧ Qd H) ∨ (J.go i H ∧ ∃ Nx : Hp → Prop, (∀ H', Nx H' → ∃ m', m' < m ∧ W (i + 1) m' H') ∧ ∀ x H', J.yld i H x H' → B Nx x H') := by
  refine ⟨fun i m H => m + i = n ∧ Pv i H, ⟨n, rfl, h0⟩, fun i m H ⟨hm, p⟩ => ?_⟩
  rcases Nat.lt_or_ge i n with hlt | hge
  · exact .inr ⟨wk.goes i H hlt (hG i H (Nat.le_of_lt hlt) p), Pv (i + 1), fun H' p' => ⟨n - (i + 1), by omega, by omega, p'⟩, fun x H' y => hs i x H H' hlt p (wk.yields i H x H' hlt (hG i H (Nat.le_of_lt hlt) p) y)⟩
  · obtain rfl : i = n := by omega
    exact .inl ⟨wk.stops H (hG i H hge p), hd H p⟩
theorem unlock {H H' : Hp} {q : Addr} {u : HO} {od : Obj} (e : H q = some u) (s : Same (upd H q (.frz od u)) H') : Same H (upd H' q u) := fun c o ec => by
  by_cases z : c = q
  · subst z
    rw [upd_same, ← ec, e]
  · rw [upd_ne z]
    exact s c o (by rw [upd_ne z]; exact ec)
theorem locked_new {H : Hp} {q D : Addr} {u : HO} (n : (upd H q u) D = none) : D ≠ q ∧ H D = none := by
  have h : D ≠ q := fun z => by
    rw [z, upd_same] at n
    cases n
  exact ⟨h, by rwa [upd_ne h] at n⟩
theorem set_wipe {σ : L2.St} {i : Nat} {x : Option V} : ∀ {vs : List Nat}, i ∈ vs → wipe (σ.set i x) vs = wipe σ vs
  | v :: vs, h => by
    show (wipe (σ.set i x) vs).set v none = (wipe σ vs).set v none
    by_cases hv : i ∈ vs
    · rw [set_wipe hv]
    · have e : i = v := by
        rcases List.mem_cons.mp h with e | e
        · exact e
        · exact absurd e hv
      subst e
      have key : ∀ (us : List Nat), i ∉ us → wipe (σ.set i x) us = (wipe σ us).set i x := by
        intro us
        induction us with
        | nil => intro _; rfl
        | cons u us ih =>
          intro n
          have n1 : i ≠ u := fun z => n (by rw [z]; exact List.mem_cons_self)
          show (wipe (σ.set i x) us).set u none = ((wipe σ us).set u none).set i x
          rw [ih fun z => n (List.mem_cons_of_mem _ z), List.set_comm _ _ n1]
      rw [key vs hv, List.set_set]
theorem wipe_twice {σ : L2.St} : ∀ {us vs : List Nat}, (∀ u ∈ us, u ∈ vs) → wipe (wipe σ us) vs = wipe σ vs
  | [], _, _ => rfl
  | u :: us, vs, h => by
    show wipe ((wipe σ us).set u none) vs = _
    rw [set_wipe (h u List.mem_cons_self), wipe_twice fun z hz => h z (List.mem_cons_of_mem _ hz)]
/-- the names of the block are as before, step by step -/
theorem wp1 {σ τ : L2.St} {i : Nat} {x : Option V} {vs : List Nat} (e : wipe σ vs = τ) (h : i ∈ vs := by decide) : wipe (σ.set i x) vs = τ := (set_wipe h).trans e
theorem wp0 {σ : L2.St} {vs : List Nat} : wipe (wipe σ vs) vs = wipe σ vs := wipe_twice fun _ h => h
end Fv


set_option Elab.async false
set_option linter.all false
set_option maxRecDepth 100000
set_option maxHeartbeats 4000000
namespace Fv
open PySem PySem.Spec PyProof.Rows L2
/-! ### _closed -/
abbrev sClosed : Stmt := top 23
def entOf : List Key × V → FaT
  | ([Sum.inr x, Sum.inr y], .int c) => (x, y, c)
  | _ => ("", "", 0)
def ents (kvs : List (List Key × V)) : List FaT := kvs.map entOf
theorem TbL.item {kvs : List (List Key × V)} {T : M.Tb Str} (h : TbL kvs T) {i : Nat} {kk : List Key} {v : V} (e : kvs[i]? = some (kk, v)) : ∃ x y c, kk = kP x y ∧ v = .int c ∧ T x y = some c ∧ (ents kvs)[i]? = some (x, y, c) := by
  obtain ⟨x, y, c, h1, h2⟩ := h.form _ (List.mem_of_getElem? e)
  cases h1
  exact ⟨x, y, c, rfl, rfl, h2, by unfold ents; rw [List.getElem?_map, e]; rfl⟩
theorem ents_len {kvs : List (List Key × V)} : (ents kvs).length = kvs.length := List.length_map _
theorem valV_mem {kvs : List (List Key × V)} {k : List Key} {v : V} (h : valV kvs k = some v) : (k, v) ∈ kvs := by
  unfold valV at h
  obtain ⟨kv, h1, h2⟩ := Option.map_eq_some_iff.mp h
  have := List.find?_some h1
  have hm := List.mem_of_find?_eq_some h1
  have ek : kv.1 = k := by simpa using this
  rw [← ek, ← h2]
  exact hm
theorem TbL.mem {kvs : List (List Key × V)} {T : M.Tb Str} (h : TbL kvs T) {x y : Str} {c : Int} : (x, y, c) ∈ ents kvs ↔ T x y = some c := by
  constructor
  · intro hm
    obtain ⟨⟨kk, v⟩, h1, h2⟩ := List.mem_map.mp hm
    obtain ⟨u, w, d, e, hT⟩ := h.form _ h1
    cases e
    cases h2
    exact hT
  · intro e
    have := h.val x y
    rw [e] at this
    exact List.mem_map.mpr ⟨_, valV_mem this, rfl⟩
/-- pairs of a text and a number -/
structure Prs (H : Hp) (xs : List V) (A : List (Str × Int)) : Prop where
  len : xs.length = A.length
  at_ : ∀ (i : Nat) (x : V), xs[i]? = some x → ∃ f : Str × Int, A[i]? = some f ∧ ∃ t, x = .ref t ∧ H t = some (.tup [.str f.1, .int f.2])
theorem Prs.nil {H : Hp} : Prs H [] [] := ⟨rfl, fun _ _ e => by cases e⟩
theorem Prs.same {H H' : Hp} {xs : List V} {A : List (Str × Int)} (h : Prs H xs A) (s : ∀ t ys, H t = some (.tup ys) → H' t = some (.tup ys)) : Prs H' xs A :=
  ⟨h.len, fun i x e => by obtain ⟨f, hf, t, ht, hh⟩ := h.at_ i x e; exact ⟨f, hf, t, ht, s _ _ hh⟩⟩
theorem Prs.snoc {H : Hp} {xs : List V} {A : List (Str × Int)} (h : Prs H xs A) {t : Addr} {z : Str} {c : Int} (e : H t = some (.tup [.str z, .int c])) : Prs H (xs ++ [.ref t]) (A ++ [(z, c)]) := by
  refine ⟨by rw [List.length_append, List.length_append, h.len]; rfl, fun i x ex => ?_⟩
  rcases Nat.lt_trichotomy i xs.length with l | l | l
  · rw [List.getElem?_append_left l] at ex
    obtain ⟨f, hf, r⟩ := h.at_ i x ex
    exact ⟨f, by rw [List.getElem?_append_left (by rw [← h.len]; exact l)]; exact hf, r⟩
  · subst l
    rw [List.getElem?_append_right (Nat.le_refl _), Nat.sub_self] at ex
    cases ex
    exact ⟨(z, c), by rw [List.getElem?_append_right (by rw [h.len]; exact Nat.le_refl _), h.len, Nat.sub_self]; rfl, t, rfl, e⟩
  · rw [List.getElem?_eq_none (by rw [List.length_append]; exact l)] at ex
    cases ex
theorem Its.nil {H : Hp} : Its H [] [] := ⟨rfl, fun _ _ e => by cases e⟩
theorem Its.samT {H H' : Hp} {xs : List V} {L : List FaT} (h : Its H xs L) (s : ∀ t ys, H t = some (.tup ys) → H' t = some (.tup ys)) : Its H' xs L :=
  ⟨h.len, fun i x e => by obtain ⟨f, hf, t, ht, hh⟩ := h.at_ i x e; exact ⟨f, hf, t, ht, s _ _ hh⟩⟩
theorem Its.snoc {H : Hp} {xs : List V} {L : List FaT} (h : Its H xs L) {t : Addr} {x y : Str} {c : Int} (e : H t = some (.tup [.str x, .str y, .int c])) : Its H (xs ++ [.ref t]) (L ++ [(x, y, c)]) := by
  refine ⟨by rw [List.length_append, List.length_append, h.len]; rfl, fun i v ex => ?_⟩
  rcases Nat.lt_trichotomy i xs.length with l | l | l
  · rw [List.getElem?_append_left l] at ex
    obtain ⟨f, hf, r⟩ := h.at_ i v ex
    exact ⟨f, by rw [List.getElem?_append_left (by rw [← h.len]; exact l)]; exact hf, r⟩
  · subst l
    rw [List.getElem?_append_right (Nat.le_refl _), Nat.sub_self] at ex
    cases ex
    exact ⟨(x, y, c), by rw [List.getElem?_append_right (by rw [h.len]; exact Nat.le_refl _), h.len, Nat.sub_self]; rfl, t, rfl, e⟩
  · rw [List.getElem?_eq_none (by rw [List.length_append]; exact l)] at ex
    cases ex
theorem Its.app {H : Hp} {xs ys : List V} {L M : List FaT} (h : Its H xs L) (k : Its H ys M) : Its H (xs ++ ys) (L ++ M) := by
  refine ⟨by rw [List.length_append, List.length_append, h.len, k.len], fun i v ex => ?_⟩
  rcases Nat.lt_or_ge i xs.length with l | l
  · rw [List.getElem?_append_left l] at ex
    obtain ⟨f, hf, r⟩ := h.at_ i v ex
    exact ⟨f, by rw [List.getElem?_append_left (by rw [← h.len]; exact l)]; exact hf, r⟩
  · rw [List.getElem?_append_right l] at ex
    obtain ⟨f, hf, r⟩ := k.at_ _ v ex
    exact ⟨f, by rw [List.getElem?_append_right (by rw [← h.len]; exact l), ← h.len]; exact hf, r⟩
/-- what the table says of points ahead of m, behind it -/
def aheadOf (E : List FaT) (m : Str) : List (Str × Int) := (E.filter fun f => decide (f.2.1 = m)).map fun f => (f.1, f.2.2)
def behindOf (E : List FaT) (m : Str) : List (Str × Int) := (E.filter fun f => decide (f.1 = m)).map fun f => (f.2.1, f.2.2)
def waysOf (A B : List (Str × Int)) : List FaT := A.flatMap fun a => B.map fun b => (a.1, b.1, a.2 + b.2)
theorem ahead_mem {E : List FaT} {m x : Str} {c : Int} : (x, c) ∈ aheadOf E m ↔ (x, m, c) ∈ E := by
  unfold aheadOf
  rw [List.mem_map]
  constructor
  · rintro ⟨⟨u, v, d⟩, h, e⟩
    rw [List.mem_filter] at h
    cases e
    have := of_decide_eq_true h.2
    dsimp only at this
    rw [← this]
    exact h.1
  · intro h
    exact ⟨(x, m, c), List.mem_filter.mpr ⟨h, by simp⟩, rfl⟩
theorem behind_mem {E : List FaT} {m y : Str} {c : Int} : (y, c) ∈ behindOf E m ↔ (m, y, c) ∈ E := by
  unfold behindOf
  rw [List.mem_map]
  constructor
  · rintro ⟨⟨u, v, d⟩, h, e⟩
    rw [List.mem_filter] at h
    cases e
    have := of_decide_eq_true h.2
    dsimp only at this
    rw [← this]
    exact h.1
  · intro h
    exact ⟨(m, y, c), List.mem_filter.mpr ⟨h, by simp⟩, rfl⟩
theorem ways_mem {A B : List (Str × Int)} {x y : Str} {c : Int} : (x, y, c) ∈ waysOf A B ↔ ∃ a b, (x, a) ∈ A ∧ (y, b) ∈ B ∧ c = a + b := by
  unfold waysOf
  rw [List.mem_flatMap]
  constructor
  · rintro ⟨⟨u, a⟩, h1, h2⟩
    obtain ⟨⟨v, b⟩, h3, h4⟩ := List.mem_map.mp h2
    cases h4
    exact ⟨a, b, h1, h3, rfl⟩
  · rintro ⟨a, b, h1, h2, rfl⟩
    exact ⟨(x, a), h1, List.mem_map.mpr ⟨(y, b), h2, rfl⟩⟩
theorem over_of {kvs : List (List Key × V)} {T : M.Tb Str} (h : TbL kvs T) (m : Str) : M.Over T m (ents kvs ++ waysOf (aheadOf (ents kvs) m) (behindOf (ents kvs) m)) := by
  refine ⟨fun x y c hm => ?_, fun x y c e => List.mem_append_left _ (h.mem.mpr e), fun x y a b ha hb => List.mem_append_right _ (ways_mem.mpr ⟨a, b, ahead_mem.mpr (h.mem.mpr ha), behind_mem.mpr (h.mem.mpr hb), rfl⟩)⟩
  rcases List.mem_append.mp hm with hm | hm
  · exact .inl (h.mem.mp hm)
  · obtain ⟨a, b, h1, h2, rfl⟩ := ways_mem.mp hm
    exact .inr ⟨a, b, h.mem.mp (ahead_mem.mp h1), h.mem.mp (behind_mem.mp h2), rfl⟩
theorem ahead_len {E : List FaT} {m : Str} : (aheadOf E m).length ≤ E.length := by
  unfold aheadOf
  rw [List.length_map]
  exact List.length_filter_le _ _
theorem behind_len {E : List FaT} {m : Str} : (behindOf E m).length ≤ E.length := by
  unfold behindOf
  rw [List.length_map]
  exact List.length_filter_le _ _
theorem ways_len {A B : List (Str × Int)} : (waysOf A B).length = A.length * B.length := by
  unfold waysOf
  induction A with
  | nil => simp
  | cons a A ih => rw [List.flatMap_cons, List.length_append, ih, List.length_map, List.length_cons, Nat.succ_mul, Nat.add_comm]
theorem ahead_snoc {E : List FaT} {m : Str} {i : Nat} {x y : Str} {c : Int} (e : E[i]? = some (x, y, c)) : aheadOf (E.take (i + 1)) m = aheadOf (E.take i) m ++ (if y = m then [(x, c)] else []) := by
  unfold aheadOf
  rw [List.take_succ, e]
  rw [List.filter_append, List.map_append]
  congr 1
  by_cases h : y = m
  · simp [h]
  · simp [h]
theorem behind_snoc {E : List FaT} {m : Str} {i : Nat} {x y : Str} {c : Int} (e : E[i]? = some (x, y, c)) : behindOf (E.take (i + 1)) m = behindOf (E.take i) m ++ (if x = m then [(y, c)] else []) := by
  unfold behindOf
  rw [List.take_succ, e]
  rw [List.filter_append, List.map_append]
  congr 1
  by_cases h : x = m
  · simp [h]
  · simp [h]
end Fv


set_option Elab.async false
set_option linter.all false
set_option maxRecDepth 100000
set_option maxHeartbeats 4000000
namespace Fv
open PySem PySem.Spec PyProof.Rows L2
theorem nodup_len {α : Type} [DecidableEq α] : ∀ {A B : List α}, A.Nodup → (∀ e ∈ A, e ∈ B) → A.length ≤ B.length := by
  intro A
  induction A with
  | nil => intro B _ _; exact Nat.zero_le _
  | cons a A ih =>
    intro B nd h
    have ha := h a List.mem_cons_self
    have nd' := List.nodup_cons.mp nd
    have := ih (B := B.erase a) nd'.2 fun e he => (List.mem_erase_of_ne (a := e) (b := a) (fun z => nd'.1 (by rw [← z]; exact he))).mpr (h e (List.mem_cons_of_mem _ he))
    rw [List.length_erase_of_mem ha] at this
    have pos : 0 < B.length := List.length_pos_of_mem ha
    rw [List.length_cons]
    omega
def spClosed : Sp := fun vs H Q _ => ∃ (a : Addr) (xs : List V) (L : List FaT) (p : Str → Int) (W : List Str), vs = [.ref a] ∧ H a = some (.lst xs) ∧ Its H xs L ∧ L.length ≤ 1000 ∧ M.Keeps L p ∧ (∀ f ∈ L, f.1 ∈ W ∧ f.2.1 ∈ W) ∧ W.length ≤ 7 ∧
  ∀ (q : Addr) (kvs : List (List Key × V)) (T : M.Tb Str) (Z : List Str) (H' : Hp), H q = none → Same H H' → H' q = some (.dT kvs) → TbL kvs T → M.Cl L p Z T →
    (∀ m x y c d, (x, m, c) ∈ L → x ≠ m → (m, y, d) ∈ L → m ≠ y → m ∈ Z) → Q (.ref q) H'
section
variable {P : Program} {w : World} {K : PySem.W.Frag} {mg : Str → Option Value} {base : Heap} {C : Addr}
abbrev nCd : List Str := ["facts", "table", "middle", "ahead", "behind", "known", "x", "y", "_", "c", "d"]
theorem scCd : FnScope nCd ["facts"] (defScope sClosed) := ⟨rfl, rfl, rfl, by decide +kernel, rfl, by decide +kernel, by decide +kernel⟩
theorem ok_closed {f fT : Addr} {fd fdT : FuncData} (F : Fun K "_closed" "_closed" sClosed f fd)
    (GT : FnOk P w K mg base CX0 1 fT fdT ["facts"] spTight) (bT : Binds K fdT ["facts"] []) (mT : mg "_tightest" = some (.ref fT)) (kT : PySem.W.keepIn K (.ref fT) = true)
    (mo : mg "sorted" = none) : FnOk P w K mg base CX0 2 f fd ["facts"] spClosed := by
  refine F.ok scCd (fun vs H Q E h => ?_) (fun cdv A outer s H vs Q E hr h => ?_)
  · obtain ⟨a, _, _, _, _, rfl, _⟩ := h
    rfl
  · obtain ⟨a, xs, L, p, W, rfl, ha, hx, hl, K0, hW, hw7, q⟩ := h
    have hu := hu_of hr
    refine ⟨_, pss_cons (ps_set (i := 1) scCd.nd rfl (.inl rfl) (pe_call GT hr (by rfl) mT kT bT .nil pass0 (pa_cons (pv 0) pa_nil)))
      (pss_cons (ps_for PassesOwn.never rfl (pi_list (pe_callB (r := rSortX P w) (call_sortX rfl) (by rfl) mo (by decide +kernel) (pa_cons
        (pe_op (op_meet)
          (pe_lock (pe_scX (own := [("x", 6), ("_", 8)]) (g := gTup K 2 (gCons (gName 6) (gCons (gName 8) gNil))) (tt := tYes) rfl scCd.nd (pi_keys (pv 1)) (blkOk_by (N := nCd) (sc := defScope sClosed) (by decide +kernel))
            (fun _ _ _ _ _ => pg_tup (by rfl) (pgs_cons (pg_name (i := 6) scCd.nd rfl (.inl rfl)) (pgs_cons (pg_name (i := 8) scCd.nd rfl (.inl rfl)) pgs_nil))) (fun _ _ _ _ _ => pts_nil) (fun _ _ _ _ _ => pv 6)))
          (pe_lock (pe_scX (own := [("_", 8), ("y", 7)]) (g := gTup K 2 (gCons (gName 8) (gCons (gName 7) gNil))) (tt := tYes) rfl scCd.nd (pi_keys (pv 1)) (blkOk_by (N := nCd) (sc := defScope sClosed) (by decide +kernel))
            (fun _ _ _ _ _ => pg_tup (by rfl) (pgs_cons (pg_name (i := 8) scCd.nd rfl (.inl rfl)) (pgs_cons (pg_name (i := 7) scCd.nd rfl (.inl rfl)) pgs_nil))) (fun _ _ _ _ _ => pts_nil) (fun _ _ _ _ _ => pv 7)))) pa_nil))) (pg_name (i := 2) scCd.nd rfl (.inr rfl))
        (pss_cons (ps_lock (ps_setLc (i := 3) (own := [("x", 6), ("y", 7), ("c", 9)]) (g := gTup K 2 (gCons (gTup K 2 (gCons (gName 6) (gCons (gName 7) gNil))) (gCons (gName 9) gNil))) rfl scCd.nd rfl rfl (sw_true rfl rfl rfl (by decide +kernel)) (pi_itemsT (pv 1)) (blkOk_by (N := nCd) (sc := defScope sClosed) (by decide +kernel))
            (fun _ _ _ _ _ => pg_tup (by rfl) (pgs_cons (pg_tup (by rfl) (pgs_cons (pg_name (i := 6) scCd.nd rfl (.inl rfl)) (pgs_cons (pg_name (i := 7) scCd.nd rfl (.inl rfl)) pgs_nil))) (pgs_cons (pg_name (i := 9) scCd.nd rfl (.inl rfl)) pgs_nil)))
            (fun _ _ _ _ _ => pts_one (pt_cmpR (r := rEq) op_eq (pv 7) (pv 2) (nomark _))) (fun _ _ _ _ _ => pe_tup (pa_cons (pv 6) (pa_cons (pv 9) pa_nil)))))
        (pss_cons (ps_set (i := 4) scCd.nd rfl (.inr rfl) (pe_lock (pe_lc (own := [("x", 6), ("y", 7), ("c", 9)]) (g := gTup K 2 (gCons (gTup K 2 (gCons (gName 6) (gCons (gName 7) gNil))) (gCons (gName 9) gNil))) rfl scCd.nd (pi_itemsT (pv 1)) (blkOk_by (N := nCd) (sc := defScope sClosed) (by decide +kernel))
            (fun _ _ _ _ _ => pg_tup (by rfl) (pgs_cons (pg_tup (by rfl) (pgs_cons (pg_name (i := 6) scCd.nd rfl (.inl rfl)) (pgs_cons (pg_name (i := 7) scCd.nd rfl (.inl rfl)) pgs_nil))) (pgs_cons (pg_name (i := 9) scCd.nd rfl (.inl rfl)) pgs_nil)))
            (fun _ _ _ _ _ => pts_one (pt_cmpR (r := rEq) op_eq (pv 6) (pv 2) (nomark _))) (fun _ _ _ _ _ => pe_tup (pa_cons (pv 7) (pa_cons (pv 9) pa_nil))))))
        (pss_cons (ps_lock (ps_setLc (i := 5) (own := [("x", 6), ("y", 7), ("c", 9)]) (g := gTup K 2 (gCons (gTup K 2 (gCons (gName 6) (gCons (gName 7) gNil))) (gCons (gName 9) gNil))) (tt := tYes) rfl scCd.nd rfl rfl (sw_true rfl rfl rfl (by decide +kernel)) (pi_itemsT (pv 1)) (blkOk_by (N := nCd) (sc := defScope sClosed) (by decide +kernel))
            (fun _ _ _ _ _ => pg_tup (by rfl) (pgs_cons (pg_tup (by rfl) (pgs_cons (pg_name (i := 6) scCd.nd rfl (.inl rfl)) (pgs_cons (pg_name (i := 7) scCd.nd rfl (.inl rfl)) pgs_nil))) (pgs_cons (pg_name (i := 9) scCd.nd rfl (.inl rfl)) pgs_nil)))
            (fun _ _ _ _ _ => pts_nil) (fun _ _ _ _ _ => pe_tup (pa_cons (pv 6) (pa_cons (pv 7) (pa_cons (pv 9) pa_nil))))))
        (pss_one (ps_set (i := 1) scCd.nd rfl (.inl rfl) (pe_call GT hr (by rfl) mT kT bT .nil pass0 (pa_cons (pe_op op_cat (pv 5)
            (pe_lc2 (own := [("x", 6), ("c", 9), ("y", 7), ("d", 10)]) (vs1 := [7, 10]) (g := gTup K 2 (gCons (gName 6) (gCons (gName 9) gNil))) (g1 := gTup K 2 (gCons (gName 7) (gCons (gName 10) gNil))) (tt := tYes) (tt1 := tYes) (wi1 := iList K (tVar 4)) rfl scCd.nd (pi_list (pv 3)) (blkOk_by (N := nCd) (sc := defScope sClosed) (by decide +kernel)) (by decide)
            (fun _ _ _ _ _ => pg_tup (by rfl) (pgs_cons (pg_name (i := 6) scCd.nd rfl (.inl rfl)) (pgs_cons (pg_name (i := 9) scCd.nd rfl (.inl rfl)) pgs_nil))) (fun _ _ _ _ _ => pts_nil)
            (fun _ _ _ _ _ => pi_list (pv 4))
            (fun _ _ _ _ _ => pg_tup (by rfl) (pgs_cons (pg_name (i := 7) scCd.nd rfl (.inl rfl)) (pgs_cons (pg_name (i := 10) scCd.nd rfl (.inl rfl)) pgs_nil))) (fun _ _ _ _ _ => pts_nil)
            (fun _ _ _ _ _ => pe_tup (pa_cons (pv 6) (pa_cons (pv 7) (pa_cons (pe_op op_add (pv 9) (pv 10)) pa_nil)))))) pa_nil))))))))
      (pss_one (ps_ret (pv 1)))), ?_⟩
    refine ⟨_, rfl, a, xs, L, p, rfl, ha, hx, by omega, K0, fun q0 kvs0 T0 H1 nq0 s1 eq0 hT0 tg0 hk0 => ?_⟩
    dsimp only [gName]
    have cl0 := M.Cl.first K0 tg0
    have inW : ∀ {Z : List Str} {T : M.Tb Str}, M.Cl L p Z T → ∀ x y c, T x y = some c → x ∈ W ∧ y ∈ W := fun cl x y c e => by
      obtain ⟨⟨y', c', h1, _⟩, x', c'', h2, _⟩ := cl.ends x y c e
      exact ⟨(hW _ h1).1, (hW _ h2).2⟩
    have few : ∀ {Z : List Str} {T : M.Tb Str} {kvs : List (List Key × V)}, TbL kvs T → M.Cl L p Z T → kvs.length ≤ 49 := fun hT cl => by
      have h1 := hT.few W (inW cl)
      have h2 := Nat.mul_le_mul hw7 hw7
      omega
    have k0 := few hT0 cl0
    refine ⟨q0, .dT kvs0, eq0, True.intro, fun od => ?_⟩
    refine ⟨_, rfl, q0, od, rfl, .inr ⟨kvs0, upd_same, fun D nD => ?_⟩⟩
    obtain ⟨Dq0, D1⟩ := locked_new nD
    refine sc_it (walk_keysT (d := q0) (o := od) (kvs := kvs0)) (fun i H' => Same (upd H1 q0 (.frz od (.dT kvs0))) H' ∧ ∃ S, H' D = some (TxtO P w D S) ∧ S.length ≤ i ∧ ∀ z, z ∈ S ↔ ∃ f ∈ (ents kvs0).take i, f.1 = z)
      ⟨same_upd nD, [], upd_same, Nat.zero_le _, fun z => by simp⟩ (fun i H' _ h => h.1 _ _ upd_same) ?_ ?_
    · rintro i x H' H2 hi ⟨s', S, eS, lS, mS⟩ ⟨rfl, kk, v, t, hkv, rfl, ht⟩
      obtain ⟨fx, fy, fc, rfl, rfl, hT, hf⟩ := hT0.item hkv
      refine ⟨t, _, rfl, SqT.of ht, rfl, _, _, rfl, _, _, rfl, rfl, rfl, _, rfl, fx, S, rfl, eS, by rw [show scanBound = 4096 from rfl]; omega, fun c o e => ?_, _, upd_same, Nat.le_trans (insL_le _ _) (by omega), fun z => ?_⟩
      · rw [upd_ne (ne_of_none e nD)]
        exact s' c o e
      · rw [mem_insL, mS, List.take_succ, hf]
        constructor
        · rintro (⟨f, h1, h2⟩ | rfl)
          · exact ⟨f, List.mem_append_left _ h1, h2⟩
          · exact ⟨_, List.mem_append_right _ List.mem_cons_self, rfl⟩
        · rintro ⟨f, h1, h2⟩
          rcases List.mem_append.mp h1 with h1 | h1
          · exact .inl ⟨f, h1, h2⟩
          · have e : f = (fx, fy, fc) := by simpa using h1
            exact .inr (by rw [← h2, e])
    rintro H2 ⟨s2', S1, eS1, lS1, mS1⟩
    refine ⟨s2' _ _ upd_same, ?_⟩
    have s2 := unlock eq0 s2'
    have eD2 : (upd H2 q0 (.dT kvs0)) D = some (TxtO P w D S1) := by rw [upd_ne Dq0]; exact eS1
    have eq2 : (upd H2 q0 (.dT kvs0)) q0 = some (.dT kvs0) := upd_same
    rw [← ents_len, List.take_length] at mS1
    generalize upd H2 q0 (.dT kvs0) = H3 at s2 eD2 eq2 ⊢
    refine ⟨q0, .dT kvs0, eq2, True.intro, fun od2 => ?_⟩
    refine ⟨_, rfl, q0, od2, rfl, .inr ⟨kvs0, upd_same, fun D2 nD2 => ?_⟩⟩
    obtain ⟨D2q0, D21⟩ := locked_new nD2
    refine sc_it (walk_keysT (d := q0) (o := od2) (kvs := kvs0)) (fun i H' => Same (upd H3 q0 (.frz od2 (.dT kvs0))) H' ∧ ∃ S, H' D2 = some (TxtO P w D2 S) ∧ S.length ≤ i ∧ ∀ z, z ∈ S ↔ ∃ f ∈ (ents kvs0).take i, f.2.1 = z)
      ⟨same_upd nD2, [], upd_same, Nat.zero_le _, fun z => by simp⟩ (fun i H' _ h => h.1 _ _ upd_same) ?_ ?_
    · rintro i x H' H2 hi ⟨s', S, eS, lS, mS⟩ ⟨rfl, kk, v, t, hkv, rfl, ht⟩
      obtain ⟨fx, fy, fc, rfl, rfl, hT, hf⟩ := hT0.item hkv
      refine ⟨t, _, rfl, SqT.of ht, rfl, _, _, rfl, _, _, rfl, rfl, rfl, _, rfl, fy, S, rfl, eS, by rw [show scanBound = 4096 from rfl]; omega, fun c o e => ?_, _, upd_same, Nat.le_trans (insL_le _ _) (by omega), fun z => ?_⟩
      · rw [upd_ne (ne_of_none e nD2)]
        exact s' c o e
      · rw [mem_insL, mS, List.take_succ, hf]
        constructor
        · rintro (⟨f, h1, h2⟩ | rfl)
          · exact ⟨f, List.mem_append_left _ h1, h2⟩
          · exact ⟨_, List.mem_append_right _ List.mem_cons_self, rfl⟩
        · rintro ⟨f, h1, h2⟩
          rcases List.mem_append.mp h1 with h1 | h1
          · exact .inl ⟨f, h1, h2⟩
          · have e : f = (fx, fy, fc) := by simpa using h1
            exact .inr (by rw [← h2, e])
    rintro H4 ⟨s4', S2, eS2, lS2, mS2⟩
    refine ⟨s4' _ _ upd_same, ?_⟩
    have s4 := unlock eq2 s4'
    have eD4 : (upd H4 q0 (.dT kvs0)) D2 = some (TxtO P w D2 S2) := by rw [upd_ne D2q0]; exact eS2
    have eD14 := s4 _ _ eD2
    have eq4 : (upd H4 q0 (.dT kvs0)) q0 = some (.dT kvs0) := upd_same
    rw [← ents_len, List.take_length] at mS2
    generalize upd H4 q0 (.dT kvs0) = H5 at s4 eD4 eD14 eq4 ⊢
    have DD : D ≠ D2 := ne_of_none eD2 D21
    refine ⟨D, D2, S1, S2, rfl, rfl, DD, eD14, eD4, fun Mm N ndN hN nM => ?_⟩
    have s6 := same_upd (o := TxtO P w Mm N) nM
    have inN : ∀ z ∈ N, z ∈ W := fun z hz => by
      obtain ⟨⟨x, y, c⟩, h1, h2⟩ := (mS1 z).mp ((hN z).mp hz).1
      have := (inW cl0 _ _ _ (hT0.mem.mp h1)).1
      rw [← h2]
      exact this
    have lN : N.length ≤ 7 := Nat.le_trans (nodup_len ndN inN) hw7
    refine ⟨Mm, N, rfl, upd_same, by omega, fun ys Ll perm srt nL wL => ?_⟩
    have s7 := same_upd (o := .lst (ys.map V.str)) nL
    have s17 := (((s1.trans s2).trans s4).trans s6).trans s7
    have eq7 := s7 _ _ (s6 _ _ eq4)
    have eL7 : (upd (upd H5 Mm (TxtO P w Mm N)) Ll (.lst (ys.map V.str))) Ll = some (.lst (ys.map V.str)) := upd_same
    have hMid : ∀ m x y c d, (x, m, c) ∈ L → x ≠ m → (m, y, d) ∈ L → m ≠ y → m ∈ ys := fun m x y c d h1 n1 h2 n2 => by
      rw [perm.mem_iff, hN, mS1, mS2]
      obtain ⟨g1, e1, _⟩ := tg0.le _ _ _ h1 n1
      obtain ⟨g2, e2, _⟩ := tg0.le _ _ _ h2 n2
      exact ⟨⟨_, hT0.mem.mpr e2, rfl⟩, ⟨_, hT0.mem.mpr e1, rfl⟩⟩
    have nq7 : H q0 = none := nq0
    refine ⟨Ll, rfl, ⟨_, SqL.of upd_same⟩, ?_⟩
    refine for_list (K := K) (a := Ll) (xs := ys.map V.str) (fun i σ H' => ∃ (q1 : Addr) (kvs : List (List Key × V)) (T : M.Tb Str) (Z : List Str) (y2 y3 y4 y5 y6 y7 y8 y9 y10 : Option V), σ = [some (.ref a), some (.ref q1), y2, y3, y4, y5, y6, y7, y8, y9, y10] ∧ H q1 = none ∧ Same H H' ∧ H' Ll = some (.lst (ys.map V.str)) ∧ H' q1 = some (.dT kvs) ∧ TbL kvs T ∧ M.Cl L p Z T ∧ ∀ z ∈ ys.take i, z ∈ Z)
      ⟨q0, kvs0, T0, [], none, none, none, none, none, none, none, none, none, rfl, nq0, s17, eL7, eq7, hT0, cl0, fun z hz => by simp at hz⟩ (fun i σ H' _ h => by
        obtain ⟨_, _, _, _, _, _, _, _, _, _, _, _, _, _, _, _, e, _⟩ := h
        exact SqL.of e) ?_ ?_
    · rintro i x σ H' hxi ⟨q1, kvs, T, Z, y2, y3, y4, y5, y6, y7, y8, y9, y10, rfl, nq1, s', eL, eq, hT, cl, hZ⟩
      obtain ⟨m, hmi, rfl⟩ : ∃ z, ys[i]? = some z ∧ x = .str z := by
        rw [List.getElem?_map] at hxi
        cases e : ys[i]? with
        | none => rw [e] at hxi; cases hxi
        | some z => rw [e] at hxi; cases hxi; exact ⟨z, rfl, rfl⟩
      have et : ys.take (i + 1) = ys.take i ++ [m] := by rw [List.take_succ, hmi]; rfl
      have kk := few hT cl
      have el : (ents kvs).length ≤ 49 := by rw [ents_len]; exact kk
      have al := Nat.le_trans (ahead_len (E := ents kvs) (m := m)) el
      have bl := Nat.le_trans (behind_len (E := ents kvs) (m := m)) el
      -- ahead
      refine ⟨q1, .dT kvs, eq, True.intro, fun od1 => ?_⟩
      refine ⟨_, rfl, q1, od1, kvs, rfl, upd_same, fun A nA => ?_⟩
      obtain ⟨Aq, A1⟩ := locked_new nA
      refine lc_it walk_itemsT (fun j H2 => Same (upd H' q1 (.frz od1 (.dT kvs))) H2 ∧ ∃ xs, H2 A = some (.lst xs) ∧ Prs H2 xs (aheadOf ((ents kvs).take j) m))
        ⟨same_upd nA, [], upd_same, .nil⟩ (fun j H2 _ h => h.1 _ _ upd_same) ?_ ?_
      · rintro j x H2 H3 hj ⟨s2, xs2, e2, p2⟩ ⟨N1, kq, kk2, val, hkv, rfl, nN, hkq, rfl⟩
        obtain ⟨fx, fy, fc, rfl, rfl, hT2, hf⟩ := hT.item hkv
        have sN := same_upd (o := .tup [.ref kq, .int fc]) nN
        refine ⟨N1, _, rfl, SqT.of upd_same, rfl, _, _, rfl, ⟨kq, _, rfl, SqT.of (sN _ _ hkq), rfl, _, _, rfl, _, _, rfl, rfl, _, _, rfl, rfl, rfl, ?_⟩⟩
        refine ⟨_, rfl, _, rfl, rfl, _, rfl, ite2 (fun e => ?_) (fun e => ?_)⟩
        · obtain rfl : fy = m := V.str.inj (of_decide_eq_true e)
          refine ⟨_, rfl, _, rfl, by show 2 ≤ sizeLine; decide, fun t nt => ?_⟩
          have sT := sN.trans (same_upd (o := .tup [.str fx, .int fc]) nt)
          refine ⟨xs2, sT _ _ e2, small6k (by rw [p2.len]; have := ahead_len (E := (ents kvs).take j) (m := fy); rw [List.length_take] at this; omega), fun c o e => ?_, _, upd_same, ?_⟩
          · rw [upd_ne (ne_of_none e nA)]
            exact sT _ _ (s2 c o e)
          · rw [ahead_snoc hf, if_pos rfl]
            refine (p2.same fun t' ys e => ?_).snoc (by rw [upd_ne (ne_of (sT _ _ e2) upd_same (by intro z; cases z)).symm]; exact upd_same)
            rw [upd_ne (ne_of e e2 (by intro z; cases z))]
            exact sT _ _ e
        · have nm : ¬ fy = m := fun z => e (decide_eq_true (congrArg V.str z))
          refine ⟨s2.trans sN, xs2, sN _ _ e2, ?_⟩
          rw [ahead_snoc hf, if_neg nm, List.append_nil]
          exact p2.same fun t' ys e => sN _ _ e
      rintro H2 ⟨s2', xsA, eA2, pA2⟩
      refine ⟨s2' _ _ upd_same, ?_⟩
      have s2 := unlock eq s2'
      rw [← ents_len, List.take_length] at pA2
      have eA3 : (upd H2 q1 (.dT kvs)) A = some (.lst xsA) := by rw [upd_ne Aq]; exact eA2
      have pA3 : Prs (upd H2 q1 (.dT kvs)) xsA (aheadOf (ents kvs) m) := pA2.same fun t ys e => by rw [upd_ne (ne_of e (s2' _ _ upd_same) (by intro z; cases z))]; exact e
      have eq3 : (upd H2 q1 (.dT kvs)) q1 = some (.dT kvs) := upd_same
      generalize upd H2 q1 (.dT kvs) = H3 at s2 eA3 pA3 eq3 ⊢
      -- behind
      dsimp only [gName]
      refine ⟨q1, .dT kvs, eq3, True.intro, fun od2 => ?_⟩
      refine ⟨_, rfl, q1, od2, kvs, rfl, upd_same, fun B nB => ?_⟩
      obtain ⟨Bq, B1⟩ := locked_new nB
      refine lc_it walk_itemsT (fun j H2 => Same (upd H3 q1 (.frz od2 (.dT kvs))) H2 ∧ ∃ xs, H2 B = some (.lst xs) ∧ Prs H2 xs (behindOf ((ents kvs).take j) m))
        ⟨same_upd nB, [], upd_same, .nil⟩ (fun j H2 _ h => h.1 _ _ upd_same) ?_ ?_
      · rintro j x H2 H4 hj ⟨s3, xs2, e2, p2⟩ ⟨N1, kq, kk2, val, hkv, rfl, nN, hkq, rfl⟩
        obtain ⟨fx, fy, fc, rfl, rfl, hT2, hf⟩ := hT.item hkv
        have sN := same_upd (o := .tup [.ref kq, .int fc]) nN
        refine ⟨N1, _, rfl, SqT.of upd_same, rfl, _, _, rfl, ⟨kq, _, rfl, SqT.of (sN _ _ hkq), rfl, _, _, rfl, _, _, rfl, rfl, _, _, rfl, rfl, rfl, ?_⟩⟩
        refine ⟨_, rfl, _, rfl, rfl, _, rfl, ite2 (fun e => ?_) (fun e => ?_)⟩
        · obtain rfl : fx = m := V.str.inj (of_decide_eq_true e)
          refine ⟨_, rfl, _, rfl, by show 2 ≤ sizeLine; decide, fun t nt => ?_⟩
          have sT := sN.trans (same_upd (o := .tup [.str fy, .int fc]) nt)
          refine ⟨xs2, sT _ _ e2, small6k (by rw [p2.len]; have := behind_len (E := (ents kvs).take j) (m := fx); rw [List.length_take] at this; omega), fun c o e => ?_, _, upd_same, ?_⟩
          · rw [upd_ne (ne_of_none e nB)]
            exact sT _ _ (s3 c o e)
          · rw [behind_snoc hf, if_pos rfl]
            refine (p2.same fun t' ys e => ?_).snoc (by rw [upd_ne (ne_of (sT _ _ e2) upd_same (by intro z; cases z)).symm]; exact upd_same)
            rw [upd_ne (ne_of e e2 (by intro z; cases z))]
            exact sT _ _ e
        · have nm : ¬ fx = m := fun z => e (decide_eq_true (congrArg V.str z))
          refine ⟨s3.trans sN, xs2, sN _ _ e2, ?_⟩
          rw [behind_snoc hf, if_neg nm, List.append_nil]
          exact p2.same fun t' ys e => sN _ _ e
      rintro H4 ⟨s4', xsB, eB4, pB4⟩
      refine ⟨s4' _ _ upd_same, ?_⟩
      have s4 := unlock eq3 s4'
      rw [← ents_len, List.take_length] at pB4
      have eB5 : (upd H4 q1 (.dT kvs)) B = some (.lst xsB) := by rw [upd_ne Bq]; exact eB4
      have pB5 : Prs (upd H4 q1 (.dT kvs)) xsB (behindOf (ents kvs) m) := pB4.same fun t ys e => by rw [upd_ne (ne_of e (s4' _ _ upd_same) (by intro z; cases z))]; exact e
      have eA5 := s4 _ _ eA3
      have pA5 := pA3.same (H' := upd H4 q1 (.dT kvs)) fun t ys e => s4 _ _ e
      have eq5 : (upd H4 q1 (.dT kvs)) q1 = some (.dT kvs) := upd_same
      generalize upd H4 q1 (.dT kvs) = H5 at s4 eB5 pB5 eA5 pA5 eq5 ⊢
      -- known
      refine ⟨q1, .dT kvs, eq5, True.intro, fun od3 => ?_⟩
      refine ⟨_, rfl, q1, od3, kvs, rfl, upd_same, fun D3 nD3 => ?_⟩
      obtain ⟨D3q, D31⟩ := locked_new nD3
      refine lc_it walk_itemsT (fun j H2 => Same (upd H5 q1 (.frz od3 (.dT kvs))) H2 ∧ ∃ xs, H2 D3 = some (.lst xs) ∧ Its H2 xs ((ents kvs).take j))
        ⟨same_upd nD3, [], upd_same, .nil⟩ (fun j H2 _ h => h.1 _ _ upd_same) ?_ ?_
      · rintro j x H2 H6 hj ⟨s5, xs2, e2, p2⟩ ⟨N1, kq, kk2, val, hkv, rfl, nN, hkq, rfl⟩
        obtain ⟨fx, fy, fc, rfl, rfl, hT2, hf⟩ := hT.item hkv
        have sN := same_upd (o := .tup [.ref kq, .int fc]) nN
        refine ⟨N1, _, rfl, SqT.of upd_same, rfl, _, _, rfl, ⟨kq, _, rfl, SqT.of (sN _ _ hkq), rfl, _, _, rfl, _, _, rfl, rfl, _, _, rfl, rfl, rfl, ?_⟩⟩
        refine ⟨_, rfl, _, rfl, _, rfl, by show 3 ≤ sizeLine; decide, fun t nt => ?_⟩
        have sT := sN.trans (same_upd (o := .tup [.str fx, .str fy, .int fc]) nt)
        have e1 : (ents kvs).take (j + 1) = (ents kvs).take j ++ [(fx, fy, fc)] := by rw [List.take_succ, hf]; rfl
        refine ⟨xs2, sT _ _ e2, small6k (by rw [p2.len, List.length_take]; omega), fun c o e => ?_, _, upd_same, ?_⟩
        · rw [upd_ne (ne_of_none e nD3)]
          exact sT _ _ (s5 c o e)
        · rw [e1]
          refine (p2.samT fun t' ys e => ?_).snoc (by rw [upd_ne (ne_of (sT _ _ e2) upd_same (by intro z; cases z)).symm]; exact upd_same)
          rw [upd_ne (ne_of e e2 (by intro z; cases z))]
          exact sT _ _ e
      rintro H6 ⟨s6', xsK, eK6, pK6⟩
      refine ⟨s6' _ _ upd_same, ?_⟩
      have s6 := unlock eq5 s6'
      rw [← ents_len, List.take_length] at pK6
      have eK7 : (upd H6 q1 (.dT kvs)) D3 = some (.lst xsK) := by rw [upd_ne D3q]; exact eK6
      have pK7 : Its (upd H6 q1 (.dT kvs)) xsK (ents kvs) := pK6.samT fun t ys e => by rw [upd_ne (ne_of e (s6' _ _ upd_same) (by intro z; cases z))]; exact e
      have eA7 := s6 _ _ eA5
      have pA7 := pA5.same (H' := upd H6 q1 (.dT kvs)) fun t ys e => s6 _ _ e
      have eB7 := s6 _ _ eB5
      have pB7 := pB5.same (H' := upd H6 q1 (.dT kvs)) fun t ys e => s6 _ _ e
      have s07 := ((s'.trans s2).trans s4).trans s6
      have eL7 := s6 _ _ (s4 _ _ (s2 _ _ eL))
      clear s6' s4' s2' eK6 pK6 eB4 pB4 eA2 pA2 s2 s4
      generalize upd H6 q1 (.dT kvs) = H7 at s6 eK7 pK7 eA7 pA7 eB7 pB7 s07 eL7 ⊢
      dsimp only [gName]
      -- the ways
      refine ⟨_, rfl, _, rfl, A, rfl, ⟨_, SqL.of eA7⟩, fun G nG => ?_⟩
      refine loop_it (walk_list (K := K) (a := A) (xs := xsA)) (fun j H2 => Same H7 H2 ∧ ∃ xs, H2 G = some (.lst xs) ∧ Its H2 xs (waysOf ((aheadOf (ents kvs) m).take j) (behindOf (ents kvs) m)))
        ⟨same_upd nG, [], upd_same, .nil⟩ (fun j H2 _ h => SqL.of (h.1 _ _ eA7)) ?_ ?_
      · rintro j x H2 H8 hj ⟨s8, xs2, e2, p2⟩ ⟨rfl, hxj⟩
        obtain ⟨⟨fx, fc⟩, hf, t, rfl, ht⟩ := pA7.at_ _ _ hxj
        have ht2 := s8 _ _ ht
        have jl : j < (aheadOf (ents kvs) m).length := (List.getElem?_eq_some_iff.mp hf).1
        have e1 : waysOf ((aheadOf (ents kvs) m).take (j + 1)) (behindOf (ents kvs) m) = waysOf ((aheadOf (ents kvs) m).take j) (behindOf (ents kvs) m) ++ (behindOf (ents kvs) m).map fun b => (fx, b.1, fc + b.2) := by
          unfold waysOf
          rw [List.take_succ, hf, List.flatMap_append]
          congr 1
          simp
        refine ⟨t, _, rfl, SqT.of ht2, rfl, _, _, rfl, _, _, rfl, rfl, wp1 (wp1 wp0), ?_⟩
        simp only [gName, wipe, List.map_cons, List.map_nil, List.set_cons_zero, List.set_cons_succ]
        refine ⟨_, rfl, B, rfl, ⟨_, SqL.of (s8 _ _ eB7)⟩, ?_⟩
        refine loop_it (walk_list (K := K) (a := B) (xs := xsB)) (fun k H3 => Same H7 H3 ∧ ∃ xs, H3 G = some (.lst xs) ∧ Its H3 xs (waysOf ((aheadOf (ents kvs) m).take j) (behindOf (ents kvs) m) ++ ((behindOf (ents kvs) m).take k).map fun b => (fx, b.1, fc + b.2)))
          ⟨s8, xs2, e2, by rw [List.take_zero, List.map_nil, List.append_nil]; exact p2⟩ (fun k H3 _ h => SqL.of (h.1 _ _ eB7)) ?_ ?_
        · rintro k x H3 H9 hk ⟨s9, xs3, e3, p3⟩ ⟨rfl, hxk⟩
          obtain ⟨⟨fy, fd⟩, hg, u, rfl, hu2⟩ := pB7.at_ _ _ hxk
          have kl : k < (behindOf (ents kvs) m).length := (List.getElem?_eq_some_iff.mp hg).1
          refine ⟨u, _, rfl, SqT.of (s9 _ _ hu2), rfl, _, _, rfl, _, _, rfl, rfl, rfl, ?_⟩
          simp only [gName, wipe, List.map_cons, List.map_nil, List.set_cons_zero, List.set_cons_succ]
          refine ⟨_, rfl, _, rfl, _, rfl, _, rfl, _, _, rfl, rfl, by show 3 ≤ sizeLine; decide, fun t nt => ?_⟩
          have sT := same_upd (o := .tup [.str fx, .str fy, .int (fc + fd)]) nt
          have e4 : ((behindOf (ents kvs) m).take (k + 1)).map (fun b => (fx, b.1, fc + b.2)) = ((behindOf (ents kvs) m).take k).map (fun b => (fx, b.1, fc + b.2)) ++ [(fx, fy, fc + fd)] := by
            rw [List.take_succ, hg, List.map_append]
            rfl
          refine ⟨xs3, sT _ _ e3, small6k ?_, fun c o e => ?_, _, upd_same, ?_⟩
          · rw [p3.len, List.length_append, ways_len, List.length_map, List.length_take, List.length_take]
            have h1 : min j (aheadOf (ents kvs) m).length ≤ 49 := by omega
            have h2 := Nat.mul_le_mul h1 bl
            omega
          · rw [upd_ne (ne_of_none e nG)]
            exact sT _ _ (s9 c o e)
          · rw [e4, ← List.append_assoc]
            refine (p3.samT fun t' ys e => ?_).snoc (by rw [upd_ne (ne_of (sT _ _ e3) upd_same (by intro z; cases z)).symm]; exact upd_same)
            rw [upd_ne (ne_of e e3 (by intro z; cases z))]
            exact sT _ _ e
        · rintro H3 ⟨s9, xs3, e3, p3⟩
          rw [pB7.len, List.take_length] at p3
          exact ⟨s9, xs3, e3, by rw [e1]; exact p3⟩
      rintro H8 ⟨s8, xsG, eG, pG⟩
      rw [pA7.len, List.take_length] at pG
      have lG : xsG.length ≤ 2401 := by
        rw [pG.len, ways_len]
        exact Nat.mul_le_mul al bl
      have lK : xsK.length ≤ 49 := by rw [pK7.len]; exact el
      refine ⟨D3, G, xsK, xsG, rfl, rfl, s8 _ _ eK7, eG, Nat.le_of_lt (small6k (by omega)), fun Pn nP => ?_⟩
      have sP := same_upd (o := .lst (xsK ++ xsG)) nP
      have over := over_of hT m
      refine ⟨Pn, xsK ++ xsG, ents kvs ++ waysOf (aheadOf (ents kvs) m) (behindOf (ents kvs) m), p, rfl, upd_same, ((pK7.samT fun t ys e => s8 _ _ e).app pG).samT fun t ys e => sP _ _ e, by rw [List.length_append, ways_len]; have := Nat.mul_le_mul al bl; omega, cl.fine over, fun q2 kvs2 T2 H9 nq2 s9 eq9 hT9 tg9 hk9 => ?_⟩
      have s89 := (s8.trans sP).trans s9
      refine ⟨q2, kvs2, T2, m :: Z, _, _, _, _, _, _, _, _, _, rfl, ?_, s07.trans s89, s89 _ _ eL7, eq9, hT9, cl.next over tg9, fun z hz => ?_⟩
      · cases e : H q2 with
        | none => rfl
        | some o =>
          have := ((s07.trans s8).trans sP) _ _ e
          rw [nq2] at this
          cases this
      · rw [et] at hz
        rcases List.mem_append.mp hz with hz | hz
        · exact List.mem_cons_of_mem _ (hZ z hz)
        · rw [List.mem_singleton.mp hz]
          exact List.mem_cons_self
    · rintro σ H' ⟨q1, kvs, T, Z, y2, y3, y4, y5, y6, y7, y8, y9, y10, rfl, nq1, s', eL, eq, hT, cl, hZ⟩
      rw [List.length_map, List.take_length] at hZ
      exact ⟨_, rfl, q q1 kvs T Z H' nq1 s' eq hT cl fun m x y c d h1 n1 h2 n2 => hZ m (hMid m x y c d h1 n1 h2 n2)⟩
end
end Fv


set_option Elab.async false
set_option linter.all false
set_option maxRecDepth 100000
set_option maxHeartbeats 4000000
namespace Fv
open PySem PySem.Spec PyProof.Rows L2
/-! ### Facts(names, facts), facts that a start keeps -/
abbrev sInit : Stmt := inClass (top 18) 0
def faD (f : FaT) : PyData := .tuple [.str f.1, .str f.2.1, .int f.2.2]
theorem Its.dx {C : Addr} {H : Hp} {b : Addr} (hb : ∀ ys, H b ≠ some (.tup ys)) : ∀ {xs : List V} {L : List FaT}, Its H xs L → DxAll C H b xs (L.map faD)
  | [], [], _ => .nil
  | [], _ :: _, h => by cases h.len
  | _ :: _, [], h => by cases h.len
  | x :: xs, f :: L, h => by
    refine .cons ?_ (Its.dx hb ⟨by have := h.len; rw [List.length_cons, List.length_cons] at this; omega, fun i y e => ?_⟩)
    · obtain ⟨g, hg, t, rfl, ht⟩ := h.at_ 0 x rfl
      cases hg
      exact .tup ht (fun z => hb _ (by rw [← z]; exact ht)) (.cons (.str _) (.cons (.str _) (.cons (.int _) .nil)))
    · exact h.at_ (i + 1) y e
theorem src_in {zs : List Str} (hz : ∀ z ∈ zs, NmOk z) {u : Str} (h : SrcIn zs u) : u = "" ∨ NmOk u := h.imp id (hz u)
theorem facts_true {zs : List Str} (hz : ∀ z ∈ zs, NmOk z) {L : List FaT} (h : ∀ f ∈ L, SrcIn zs f.1 ∧ SrcIn zs f.2.1) : factsD (.list (L.map faD)) = true := by
  unfold factsD
  rw [Bool.and_eq_true]
  refine ⟨rfl, ?_⟩
  show (L.map faD).all factD = true
  rw [List.all_map, List.all_eq_true]
  intro f hf
  have e : factD (faD f) = (sourceD (.str f.1) && sourceD (.str f.2.1) && intD (.int f.2.2)) := rfl
  show factD (faD f) = true
  rw [e, src_name (src_in hz (h f hf).1), src_name (src_in hz (h f hf).2)]
  rfl
theorem facts_ok {zs : List Str} (hz : ∀ z ∈ zs, NmOk z) : ∀ {L : List FaT}, (∀ f ∈ L, SrcIn zs f.1 ∧ SrcIn zs f.2.1) → okAll (L.map faD)
  | [], _ => True.intro
  | f :: L, h => ⟨⟨by show 3 ≤ 60; decide, ⟨src_ok (src_in hz (h f List.mem_cons_self).1), src_ok (src_in hz (h f List.mem_cons_self).2), True.intro, True.intro⟩⟩, facts_ok hz fun g hg => h g (List.mem_cons_of_mem _ hg)⟩
theorem names_dx {C : Addr} {H : Hp} {b : Addr} : ∀ {zs : List Str}, DxAll C H b (zs.map V.str) (zs.map PyData.str)
  | [] => .nil
  | _ :: _ => .cons (.str _) names_dx
theorem names_ok : ∀ {zs : List Str}, (∀ z ∈ zs, NmOk z) → okAll (zs.map PyData.str)
  | [], _ => True.intro
  | z :: zs, h => ⟨(h z List.mem_cons_self).ok, names_ok fun y hy => h y (List.mem_cons_of_mem _ hy)⟩
theorem names_true {zs : List Str} (hz : ∀ z ∈ zs, NmOk z) (nd : zs.Nodup) : namesD (.list (zs.map PyData.str)) = true := by
  unfold namesD
  rw [Bool.and_eq_true, Bool.and_eq_true]
  refine ⟨⟨rfl, ?_⟩, ?_⟩
  · show (zs.map PyData.str).all nameD = true
    rw [List.all_map, List.all_eq_true]
    exact fun z h => (hz z h).name
  · show decide ((zs.map PyData.str).map strS).Nodup = true
    rw [List.map_map, decide_eq_true_eq]
    have e : zs.map (strS ∘ PyData.str) = zs := by
      conv => rhs; rw [← List.map_id zs]
      exact List.map_congr_left fun _ _ => rfl
    rw [e]
    exact nd
def spIni (C : Addr) : Sp := fun vs H Q _ => ∃ (x n a dx : Addr) (zs : List Str) (xs : List V) (L : List FaT) (p : Str → Int), vs = [.ref x, .ref n, .ref a] ∧ H x = some (.ins C dx []) ∧ H n = some (.lst (zs.map V.str)) ∧ H a = some (.lst xs) ∧ Its H xs L ∧
  (∀ z ∈ zs, NmOk z) ∧ zs.Nodup ∧ zs.length ≤ 6 ∧ L.length ≤ 60 ∧ (∀ f ∈ L, SrcIn zs f.1 ∧ SrcIn zs f.2.1) ∧ M.Keeps L p ∧
  ∀ H' ys (T : M.Tb Str) Z m, H m = none → ys.Perm zs → sortedS ys = true → FacAtN C H' x m ys T → M.Cl L p Z T → (∀ m x y c d, (x, m, c) ∈ L → x ≠ m → (m, y, d) ∈ L → m ≠ y → m ∈ Z) →
    (∀ c u, c ≠ x → H c = some u → H' c = some u) → Q .non H'
section
variable {P : Program} {w : World} {K : PySem.W.Frag} {mg : Str → Option Value} {base : Heap} {C : Addr}
theorem scIni : FnScope ["self", "names", "facts"] ["self", "names", "facts"] (defScope sInit) := ⟨rfl, rfl, rfl, by decide +kernel, rfl, by decide +kernel, by decide +kernel⟩
theorem ok_ini {f fC fM fA fS fD : Addr} {fd fdC fdM fdA fdS fdD : FuncData} {dvs : List V} (F : FunD K "__init__" "Facts.__init__" (defArgs sInit) (defBody sInit) (defScope sInit) dvs [] f fd) (T : FacC K C)
    (GC : FnOk P w K mg base CX0 1 fC fdC ["rights"] spChk) (bC : Binds K fdC ["rights"] []) (mC : mg "check_arguments" = some (.ref fC)) (kC : PySem.W.keepIn K (.ref fC) = true)
    (GM : FnOk P w K mg base CX0 2 fM fdM ["thing"] (spX C namesD)) (bM : Binds K fdM ["thing"] []) (mM : mg "are_names" = some (.ref fM)) (kM : PySem.W.keepIn K (.ref fM) = true)
    (GA : FnOk P w K mg base CX0 4 fA fdA ["thing"] (spX C factsD)) (bA : Binds K fdA ["thing"] []) (mA : mg "_are_facts" = some (.ref fA)) (kA : PySem.W.keepIn K (.ref fA) = true)
    (GS : FnOk P w K mg base CX0 1 fS fdS ["names", "facts"] spChkS) (bS : Binds K fdS ["names", "facts"] []) (mS : mg "_check_sources" = some (.ref fS)) (kS : PySem.W.keepIn K (.ref fS) = true)
    (GD : FnOk P w K mg base CX0 2 fD fdD ["facts"] spClosed) (bD : Binds K fdD ["facts"] []) (mD : mg "_closed" = some (.ref fD)) (kD : PySem.W.keepIn K (.ref fD) = true)
    (mo : mg "sorted" = none) : FnOk P w K mg base CX0 5 f fd ["self", "names", "facts"] (spIni C) := by
  refine F.ok scIni (fun vs H Q E h => ?_) (fun cdv A outer s H vs Q E hr h => ?_)
  · obtain ⟨x, n, a, dx, zs, xs, L, p, rfl, _⟩ := h
    rfl
  · obtain ⟨x, n, a, dx, zs, xs, L, p, rfl, hx, hn, ha, hi, hz, nd, zl, ll, hs, K0, q⟩ := h
    have hr1 : Room 1 _ := hr.mono (by decide)
    have hr2 : Room 2 _ := hr.mono (by decide)
    refine ⟨_, pss_cons (ps_expr (pe_call GC hr1 (by rfl) mC kC bC .nil pass0 (pa_cons (pe_lst (pa_cons (pe_call GM hr2 (by rfl) mM kM bM .nil pass0 (pa_cons (pv 1) pa_nil)) (pa_cons (pe_call GA hr (by rfl) mA kA bA .nil pass0 (pa_cons (pv 2) pa_nil)) pa_nil))) pa_nil)))
      (pss_cons (ps_expr (pe_call GS hr1 (by rfl) mS kS bS .nil pass0 (pa_cons (pv 1) (pa_cons (pv 2) pa_nil))))
      (pss_cons (ps_fld (pv 0) (pe_callB (r := rSortB K) call_sortB (by rfl) mo (by decide +kernel) (pa_cons (pv 1) pa_nil)) rfl)
      (pss_one (ps_fld (pv 0) (pe_call GD hr2 (by rfl) mD kD bD .nil pass0 (pa_cons (pv 2) pa_nil)) rfl)))), ?_⟩
    have ne : n ≠ x := fun z => by rw [z, hx] at hn; cases hn
    have ae : a ≠ x := fun z => by rw [z, hx] at ha; cases ha
    have dn : Dx C H x (.ref n) (.list (zs.map PyData.str)) := .lst hn ne names_dx
    have hb : ∀ ys, H x ≠ some (.tup ys) := fun ys z => by rw [hx] at z; cases z
    have da : Dx C H x (.ref a) (.list (L.map faD)) := .lst ha ae (hi.dx hb)
    refine ⟨_, rfl, x, _, _, rfl, dn, ⟨by rw [List.length_map]; omega, names_ok hz⟩, ⟨_, hx⟩, fun H1 s1 => ?_⟩
    refine ⟨_, rfl, x, _, _, rfl, da.mono fun c o _ e => s1 c o e, ⟨by rw [List.length_map]; omega, facts_ok hz hs⟩, ⟨_, s1 _ _ hx⟩, fun H2 s2 => ⟨by show 2 ≤ sizeLine; decide, fun pp np => ?_⟩⟩
    rw [names_true hz nd, facts_true hz hs]
    have s3 := same_upd (o := .lst [.bl true, .bl true]) np
    refine ⟨pp, rfl, upd_same, fun H4 s4 => ?_⟩
    have s04 := ((s1.trans s2).trans s3).trans s4
    refine ⟨_, rfl, _, rfl, n, a, zs, xs, L, rfl, s04 _ _ hn, by omega, s04 _ _ ha, hi.same s04, hs, fun H5 s5 => ?_⟩
    have s05 := s04.trans s5
    refine ⟨_, rfl, n, zs, rfl, .inl (SqL.of (s05 _ _ hn)), by omega, fun ys r perm srt nr wr => ?_⟩
    have s6 := same_upd (o := .lst (ys.map V.str)) nr
    have s06 := s05.trans s6
    refine ⟨_, rfl, x, C, dx, _, rfl, s06 _ _ hx, T.cl, T.n1, by decide, ?_⟩
    have rx : r ≠ x := fun z => by rw [z, s05 _ _ hx] at nr; cases nr
    obtain ⟨H7, eH7⟩ : ∃ H7, H7 = upd (upd H5 r (.lst (ys.map V.str))) x (.ins C dx (putF "_names" (.ref r) [])) := ⟨_, rfl⟩
    rw [← eH7]
    have hx7 : H7 x = some (.ins C dx (putF "_names" (.ref r) [])) := by rw [eH7]; exact upd_same
    have hr7 : H7 r = some (.lst (ys.map V.str)) := by rw [eH7, upd_ne rx]; exact upd_same
    have k07 : ∀ c u, c ≠ x → H c = some u → H7 c = some u := fun c u n e => by
      rw [eH7, upd_ne n]
      exact s06 _ _ e
    clear eH7
    have hi7 : Its H7 xs L := hi.samT fun t us e => k07 _ _ (fun z => hb us (by rw [← z]; exact e)) e
    refine ⟨_, rfl, a, xs, L, p, "" :: zs, rfl, k07 _ _ ae ha, hi7, by omega, K0, fun f hf => ?_, by rw [List.length_cons]; omega, fun r2 kvs T2 Z H8 nr2 s8 e8 hT cl hM => ?_⟩
    · obtain ⟨h1, h2⟩ := hs f hf
      exact ⟨h1.elim (fun e => by rw [e]; exact List.mem_cons_self) (List.mem_cons_of_mem _), h2.elim (fun e => by rw [e]; exact List.mem_cons_self) (List.mem_cons_of_mem _)⟩
    have r2x : r2 ≠ x := fun z => by rw [z, hx7] at nr2; cases nr2
    refine ⟨_, rfl, x, C, dx, _, rfl, s8 _ _ hx7, T.cl, T.n2, by show 1 < 1000; decide, ?_⟩
    have rH : H r = none := by
      cases e : H r with
      | none => rfl
      | some o => rw [s05 _ _ e] at nr; cases nr
    refine q _ ys T2 Z r rH perm srt ⟨dx, r2, kvs, by rw [upd_same, fac_made], ?_, by rw [perm.length_eq]; omega, ?_, hT⟩ cl hM fun c u n e => ?_
    · rw [upd_ne rx]
      exact s8 _ _ hr7
    · rw [upd_ne r2x]
      exact e8
    · rw [upd_ne n]
      exact s8 _ _ (k07 c u n e)
end
end Fv


set_option Elab.async false
set_option linter.all false
set_option maxRecDepth 100000
set_option maxHeartbeats 2000000
/-! own rules: sorted of tuples of texts and numbers; sorted of a dict whose keys are such -/
namespace Fv
open PySem PySem.Spec PyProof.Rows L2
/-- no later than -/
def leD (d e : PyData) : Bool := !PySem.W.dataLt e d
theorem pw_uniq {α : Type} {R : α → α → Prop} : ∀ {l m : List α}, l.Pairwise R → m.Pairwise R → l.Perm m → (∀ a ∈ l, ∀ b ∈ l, R a b → R b a → a = b) → l = m
  | [], m, _, _, p, _ => (List.nil_perm.mp p).symm
  | x :: l, [], _, _, p, _ => by
    have := p.length_eq
    simp at this
  | x :: l, y :: m, hl, hm, p, an => by
    obtain ⟨a1, a2⟩ := List.pairwise_cons.mp hl
    obtain ⟨b1, b2⟩ := List.pairwise_cons.mp hm
    have exy : x = y := by
      have i1 := p.mem_iff.mp (List.mem_cons_self (a := x))
      have i2 := p.mem_iff.mpr (List.mem_cons_self (a := y))
      rcases List.mem_cons.mp i1 with h | h
      · exact h
      · rcases List.mem_cons.mp i2 with k | k
        · exact k.symm
        · exact an x List.mem_cons_self y i2 (a1 y k) (b1 x h)
    subst exy
    rw [pw_uniq a2 b2 (List.Perm.cons_inv p) fun a ha b hb => an a (List.mem_cons_of_mem _ ha) b (List.mem_cons_of_mem _ hb)]
theorem sort_le (le : PyData → PyData → Bool) : (PySem.W.sortLe (PyProof.Rows.listOrd PyProof.Rows.itemOrd) false PySem.W.keyToks) = leD := rfl
theorem leD_sorted (ds : List PyData) : (ds.mergeSort leD).Pairwise fun a b => leD a b = true :=
  PySem.W.sort_pairwise (PySem.W.sortLe_total (PyProof.Rows.listOrd PyProof.Rows.itemOrd) false PySem.W.keyToks) ds
theorem leD_anti {d e : PyData} (h : leD d e = true) (k : leD e d = true) : PySem.W.keyToks d = PySem.W.keyToks e := by
  unfold leD at h k
  refine PyProof.Rows.lex_total (O := PyProof.Rows.itemOrd) _ _ ?_ ?_
  · have := Bool.not_eq_true' _ |>.mp k
    exact this
  · have := Bool.not_eq_true' _ |>.mp h
    exact this
open PySem.W (EachIs)
theorem each_reads {h : Heap} : ∀ {us : List Value} {ds : List PyData} {as : List Addr}, ReadsAll h us ds as → EachIs (fun v d => ∃ as, Reads h v d as) us ds
  | _, _, _, .nil => .nil
  | _, _, _, .cons r t => .cons ⟨_, r⟩ (each_reads t)
theorem each_mem2 {α β : Type} : ∀ {as : List α} {bs : List β}, as.length = bs.length → EachIs (fun a b => (a, b) ∈ as.zip bs) as bs := by
  intro as bs h
  have key : ∀ (as : List α) (bs : List β) (R : α × β → Prop), as.length = bs.length → (∀ p ∈ as.zip bs, R p) → EachIs (fun a b => R (a, b)) as bs := by
    intro as
    induction as with
    | nil =>
      intro bs R h _
      cases bs with
      | nil => exact .nil
      | cons => simp at h
    | cons a as ih =>
      intro bs R h hp
      cases bs with
      | nil => simp at h
      | cons b bs =>
        refine .cons (hp (a, b) (by simp)) (ih bs R (by simpa using h) fun p hp2 => hp p (by rw [List.zip_cons_cons]; exact List.mem_cons_of_mem _ hp2))
  exact key as bs _ h fun p hp => hp
theorem each_get {α β : Type} {R : α → β → Prop} : ∀ {as : List α} {bs : List β}, EachIs R as bs → ∀ (i : Nat) (a : α), as[i]? = some a → ∃ b, bs[i]? = some b ∧ R a b
  | _, _, .nil, i, a, e => by cases i <;> cases e
  | _, _, .cons r t, 0, a, e => by cases e; exact ⟨_, rfl, r⟩
  | _, _, .cons r t, i + 1, a, e => by
    obtain ⟨b, h1, h2⟩ := each_get t i a (by simpa using e)
    exact ⟨b, by simpa using h1, h2⟩
theorem back_zip : ∀ {us : List Value} {ds : List PyData} {u : Value} {d : PyData}, (u, d) ∈ us.zip ds → (backV u, d) ∈ (us.map backV).zip ds
  | [], _, _, _, h => by simp at h
  | _ :: _, [], _, _, h => by simp at h
  | x :: us, e :: ds, u, d, h => by
    rw [List.zip_cons_cons] at h
    rw [List.map_cons, List.zip_cons_cons]
    rcases List.mem_cons.mp h with h | h
    · cases h
      exact List.mem_cons_self
    · exact List.mem_cons_of_mem _ (back_zip h)
theorem each_back {xs : List V} {us : List Value} {ds es : List PyData} {vs : List Value} (e1 : xs = us.map backV) (h : EachIs (fun u d => (u, d) ∈ us.zip ds) vs es) : EachIs (fun v d => (v, d) ∈ xs.zip ds) (vs.map backV) es := by
  subst e1
  induction h with
  | nil => exact .nil
  | cons r _ ih => exact .cons (back_zip r) ih
/-- what can be sorted -/
structure SortOk (ds : List PyData) : Prop where
  al : PySem.W.AllAlike ds
  so : PySem.W.Sortable ds
  dp : ∀ d ∈ ds, d.depth ≤ 5
/-- sorted(xs), xs a list of tuples -/
def rSortD (K : PySem.W.Frag) : List V → Hp → VK → Prop := fun vs H Q => ∃ (a : Addr) (xs : List V) (ds : List PyData), vs = [.ref a] ∧ SqL K H a xs ∧ (∀ x ∈ xs, ∃ t, x = V.ref t) ∧ DpAll K H xs ds ∧ SortOk ds ∧
  ∀ ys p, EachIs (fun v d => (v, d) ∈ xs.zip ds) ys (ds.mergeSort leD) → H p = none → p ≠ sysModules → Q (.ref p) (upd H p (.lst ys))
section
variable {X : Cx}
theorem cr_sortD (hu : X.A.units + 64 < cLine) : CallR X (.builtin "sorted") (rSortD X.K) := by
  intro pins s σ H vs us Q I r h
  obtain ⟨a, xs, ds, rfl, hs, hx, hd, ok, q⟩ := h
  obtain ⟨its, rv, hl, hz⟩ := I.list hs
  rw [Vals.ref1 r]
  obtain ⟨e1, e2⟩ := refs_back rv hx
  obtain ⟨as, ra⟩ := Dp.readsAll I ds _ _ hd rv
  have hlen : its.length = ds.length := PySem.SeqAt.ReadsAll.length _ _ _ ra
  have keepC : ∀ b o, s.heap.get? b = some o → (PySem.W.sortingHeap (PySem.W.copyHeap s.heap its) (s.heap.objs.size + 1) its).get? b = some o := fun b o e => PySem.W.sorting_copy_old e
  have ra2 := ReadsAll.keeps keepC ra
  have S := PySem.W.SortsAt.data (prog := X.prog) (w := X.w) (A := X.A.in1.in1) (s := { s with heap := PySem.W.sortingHeap (PySem.W.copyHeap s.heap its) (s.heap.objs.size + 1) its }) (each_reads ra2) ok.al ok.so fun d hd => by
    have h1 := ok.dp d hd
    have h2 : X.A.in1.in1.units = X.A.units + 1 + 1 := rfl
    omega
  have hL : its.length ≤ sizeLine := by rw [← rv.length]; exact hz
  refine PySem.W.sorted_vals hl.isList S hL ?_
  have each := PySem.W.sortVals_each (R := fun u d => (u, d) ∈ its.zip ds) (rev := false) (κ := PySem.W.dataKind (PySem.W.sortingHeap (PySem.W.copyHeap s.heap its) (s.heap.objs.size + 1) its) ds) PySem.W.keyToks (each_mem2 hlen) (PySem.W.EachIs.mono (fun v d h => h) (by
    have em := PySem.W.each_mem (each_reads ra2)
    refine PySem.W.EachIs.mono ?_ em
    rintro v d ⟨⟨as, r⟩, hd⟩
    exact PySem.W.dataKind_some ok.al hd r))
  have mem : ∀ u ∈ PySem.W.sortVals (PySem.W.dataKind (PySem.W.sortingHeap (PySem.W.copyHeap s.heap its) (s.heap.objs.size + 1) its) ds) false its its, ∃ t, u = Value.ref t := fun u hm => e2 u (PySem.W.sortVals_mem false hm)
  generalize PySem.W.sortVals (PySem.W.dataKind (PySem.W.sortingHeap (PySem.W.copyHeap s.heap its) (s.heap.objs.size + 1) its) ds) false its its = out at each mem ⊢
  obtain ⟨ep, he⟩ := PyProof.Rows.sortedAll_at s.heap its out.toArray
  have ol : out.length = its.length := by rw [each.length, List.length_mergeSort, hlen]
  refine ⟨.ref (s.heap.objs.size + 1), upd H (s.heap.objs.size + 1) (.lst (out.map backV)), I.laid (t' := s.toks) (fun b o e => PyProof.Rows.sortedAll_old e) (Nat.le_succ _) ⟨by rw [List.length_map, ol]; exact hL, out, ep, vals_back mem, he⟩, rfl,
    q _ _ (each_back e1 each) (I.hok.fresh (Nat.le_succ _)) ?_⟩
  have := I.big
  exact Nat.ne_of_gt (Nat.lt_trans this (Nat.lt_succ_self _))
def kDat : Key → PyData
  | .inl i => .int i
  | .inr x => .str x
/-- a key as a datum -/
def kTup (kk : List Key) : PyData := .tuple (kk.map kDat)
theorem key_dp {K : PySem.W.Frag} {H : Hp} : ∀ kk : List Key, DpAll K H (kk.map kV) (kk.map kDat)
  | [] => .nil
  | .inl i :: kk => .cons (.int i) (key_dp kk)
  | .inr x :: kk => .cons (.str x) (key_dp kk)
theorem keys_dp {K : PySem.W.Frag} {H : Hp} : ∀ {kvs : List (List Key × V)} {bs : List Addr}, IsKeys H kvs bs → DpAll K H (bs.map V.ref) (kvs.map fun kv => kTup kv.1)
  | _, _, .nil => .nil
  | _, _, .cons h t => .cons (.tup (SqT.of h) (key_dp _)) (keys_dp t)
theorem keys_at : ∀ {H : Hp} {kvs : List (List Key × V)} {bs : List Addr}, IsKeys H kvs bs → ∀ v d, (v, d) ∈ (bs.map V.ref).zip (kvs.map fun kv => kTup kv.1) → ∃ t kk, v = .ref t ∧ H t = some (.tup (kk.map kV)) ∧ d = kTup kk ∧ kk ∈ kvs.map (·.1)
  | _, _, _, .nil, v, d, h => by simp at h
  | _, _, _, .cons (a := p) (b := b) h t, v, d, hm => by
    rw [List.map_cons, List.map_cons, List.zip_cons_cons] at hm
    rcases List.mem_cons.mp hm with e | e
    · cases e
      exact ⟨b, p.1, rfl, h, rfl, by rw [List.map_cons]; exact List.mem_cons_self⟩
    · obtain ⟨t', kk, h1, h2, h3, h4⟩ := keys_at t v d e
      exact ⟨t', kk, h1, h2, h3, by rw [List.map_cons]; exact List.mem_cons_of_mem _ h4⟩
/-- sorted(d), d a dict whose keys are tuples -/
def rSortDT : List V → Hp → VK → Prop := fun vs H Q => ∃ (a : Addr) (kvs : List (List Key × V)), vs = [.ref a] ∧ Rd H a (.dT kvs) ∧ SortOk (kvs.map fun kv => kTup kv.1) ∧
  ∀ ys p, EachIs (fun v d => ∃ t kk, v = .ref t ∧ H t = some (.tup (kk.map kV)) ∧ d = kTup kk ∧ kk ∈ kvs.map (·.1)) ys ((kvs.map fun kv => kTup kv.1).mergeSort leD) → H p = none → p ≠ sysModules → Q (.ref p) (upd H p (.lst ys))
theorem cr_sortDT (hc : X.calm = true) (hu : X.A.units + 64 < cLine) : CallR X (.builtin "sorted") rSortDT := by
  intro pins s σ H xs us Q I r h
  obtain ⟨d, kvs, rfl, hd, ok, q⟩ := h
  rw [Vals.ref1 r]
  obtain ⟨z, hs, ks, pr, o, es, ep, ho, hx, hdt, he, hn⟩ := (show ObjOk X.prog X.w H s.heap d (.dT kvs) from hd.ok I.hok)
  have l1 : es.size = ks.length := size_of_entries he
  have l2 : kvs.length = ks.length := Paired.length pr
  refine Calls.call_function_entry PyProof.Rows.kind_sorted PyProof.Rows.plain_sorted PyProof.Rows.entry_sorted (PyProof.Rows.args_sorted1 _) ?_
  unfold Builtin.«sorted»
  refine wpAny_bind (m := checkCount "sorted" 1 1 _) (wpAny_pure ?_)
  refine wpAny_bind (PySem.W.kdu_collect (A := X.A.in1) (kdl_raw hs hx hdt) (I.ok.hd hc) ho (by omega) fun h' tk acc' kp it => ?_)
  have ea : acc'.toList = ks.map fun x => Value.ref x.2.1 := by
    have hl : acc'.toList.length = ks.length := by rw [Array.length_toList, it.1]; exact l1
    apply List.ext_getElem?
    intro j
    rw [List.getElem?_map]
    cases hj : acc'.toList[j]? with
    | none =>
      have h1 := List.getElem?_eq_none_iff.mp hj
      rw [List.getElem?_eq_none (by omega)]
      rfl
    | some v =>
      obtain ⟨en, hen, hv⟩ := it.2 j v (by rw [← Array.getElem?_toList]; exact hj)
      have qe := entry_at he j
      rw [hen] at qe
      cases hb : ks[j]? with
      | none =>
        rw [hb] at qe
        exact nomatch (show some en = none from qe)
      | some b =>
        rw [hb] at qe
        have e2 : en = entryOfKey (tupleKind (mixKind X.prog X.w)) b := Option.some.inj qe
        rw [hv, e2]
        rfl
  obtain ⟨bs, ebs⟩ : ∃ bs : List Addr, bs = ks.map fun x => x.2.1 := ⟨_, rfl⟩
  have eb : acc'.toList = bs.map Value.ref := by rw [ea, ebs, List.map_map]; rfl
  have isk : IsKeys H kvs bs := by rw [ebs]; exact isKeys_of pr
  have rv : Vals (bs.map V.ref) (bs.map Value.ref) := vals_refs _
  have I1 : Inv X pins σ H { s with heap := h', toks := tk } := I.kept kp
  rw [eb]
  have bl : (bs.map Value.ref).length ≤ sizeLine := by rw [List.length_map, ebs, List.length_map]; omega
  refine wpAny_bind (wpAny_newList ?_ bl)
  have oL : (h'.push (seqObj "list" (bs.map Value.ref).toArray 0)).get? h'.objs.size = some (seqObj "list" (bs.map Value.ref).toArray 0) := Heap.get?_push_size _ rfl
  show wpAny _ _ _ _ _ { s with heap := h'.push (seqObj "list" (bs.map Value.ref).toArray 0), toks := tk }
  have dp := keys_dp (K := X.K) isk
  obtain ⟨as, ra⟩ := Dp.readsAll I1 _ _ _ dp rv
  have hlen : (bs.map Value.ref).length = (kvs.map fun kv => kTup kv.1).length := PySem.SeqAt.ReadsAll.length _ _ _ ra
  have keepC : ∀ b o, h'.get? b = some o → (PySem.W.sortingHeap (h'.push (seqObj "list" (bs.map Value.ref).toArray 0)) h'.objs.size (bs.map Value.ref)).get? b = some o := fun b o e =>
    PySem.W.sortingHeap_old (Nat.ne_of_lt (Heap.lt_size e)) (Heap.get?_push_of_some _ e)
  have ra2 := ReadsAll.keeps keepC ra
  have S := PySem.W.SortsAt.data (prog := X.prog) (w := X.w) (A := X.A.in1.in1) (s := { s with heap := PySem.W.sortingHeap (h'.push (seqObj "list" (bs.map Value.ref).toArray 0)) h'.objs.size (bs.map Value.ref), toks := tk }) (each_reads ra2) ok.al ok.so fun d hd => by
    have h1 := ok.dp d hd
    have h2 : X.A.in1.in1.units = X.A.units + 1 + 1 := rfl
    omega
  have each := PySem.W.sortVals_each (R := fun u d => (u, d) ∈ (bs.map Value.ref).zip (kvs.map fun kv => kTup kv.1)) (rev := false) (κ := PySem.W.dataKind (PySem.W.sortingHeap (h'.push (seqObj "list" (bs.map Value.ref).toArray 0)) h'.objs.size (bs.map Value.ref)) (kvs.map fun kv => kTup kv.1)) PySem.W.keyToks (each_mem2 hlen) (by
    have em := PySem.W.each_mem (each_reads ra2)
    refine PySem.W.EachIs.mono ?_ em
    rintro v d ⟨⟨as, r⟩, hd⟩
    exact PySem.W.dataKind_some ok.al hd r)
  have mem : ∀ u ∈ PySem.W.sortVals (PySem.W.dataKind (PySem.W.sortingHeap (h'.push (seqObj "list" (bs.map Value.ref).toArray 0)) h'.objs.size (bs.map Value.ref)) (kvs.map fun kv => kTup kv.1)) false (bs.map Value.ref) (bs.map Value.ref), ∃ t, u = Value.ref t := fun u hm => by
    obtain ⟨t, _, e⟩ := List.mem_map.mp (PySem.W.sortVals_mem false hm)
    exact ⟨t, e.symm⟩
  refine wpAny_bind (wpAny_holding (wpAny_call_entry PyProof.Rows.slot_list_sort ⟨_, oL, rfl⟩ PyProof.Rows.entry_list_sort
    (PySem.W.list_sort_vals (s := { s with heap := h'.push (seqObj "list" (bs.map Value.ref).toArray 0), toks := tk }) oL S bl ⟨_, rfl, ?_⟩) (PyProof.Rows.args_list_sort _)))
  generalize PySem.W.sortVals (PySem.W.dataKind (PySem.W.sortingHeap (h'.push (seqObj "list" (bs.map Value.ref).toArray 0)) h'.objs.size (bs.map Value.ref)) (kvs.map fun kv => kTup kv.1)) false (bs.map Value.ref) (bs.map Value.ref) = out at each mem ⊢
  obtain ⟨ep', he'⟩ := PyProof.Rows.sortedHeap_at (vs := bs.map Value.ref) (out := out.toArray) oL
  have ol : out.length = (bs.map Value.ref).length := by rw [each.length, List.length_mergeSort, hlen]
  have each2 : EachIs (fun v d => ∃ t kk, v = .ref t ∧ H t = some (.tup (kk.map kV)) ∧ d = kTup kk ∧ kk ∈ kvs.map (·.1)) (out.map backV) ((kvs.map fun kv => kTup kv.1).mergeSort leD) := by
    have e1 : bs.map V.ref = (bs.map Value.ref).map backV := by rw [List.map_map]; rfl
    have := each_back e1 each
    exact PySem.W.EachIs.mono (fun v d h => keys_at isk v d h) this
  refine wpAny_pure ⟨_, rfl, .ref h'.objs.size, upd H h'.objs.size (.lst (out.map backV)), I1.laid (t' := tk) (fun b u e => ?_) (Nat.le_refl _) ⟨by rw [List.length_map, ol]; exact bl, out, ep', vals_back mem, he'⟩, rfl,
    q _ _ each2 (I1.hok.fresh (Nat.le_refl _)) (Nat.ne_of_gt I1.big)⟩
  have hb : b < h'.objs.size := Heap.lt_size e
  rw [PyProof.Rows.sortedHeap_old (Nat.ne_of_lt hb) (by rw [size_push']; exact Nat.lt_succ_of_lt hb)]
  exact Heap.get?_push_of_some _ e
end
end Fv


set_option Elab.async false
set_option linter.all false
set_option maxRecDepth 100000
set_option maxHeartbeats 2000000
/-! own rule: == of two dicts whose keys are tuples and whose values are whole numbers -/
namespace Fv
open PySem PySem.Spec PyProof.Rows L2
section
variable {P : Program} {w : World} {Ky : Type} [DecidableEq Ky] {knd : HeapKind P w Ky} {A : Around} {E : Value → Shared → Prop} {s : Shared}
abbrev XsT (Ky : Type) : Type := List (Ky × Addr × Value)
/-- whether all of the one stand in the other -/
def hitsT (xb : XsT Ky) (l : XsT Ky) (n : Ky × Addr × Value → Int) (m : Ky × Addr × Value → Int) : Bool := l.all fun x => match xb.find? fun y => decide (y.1 = x.1) with
  | some y => decide (n x = m y)
  | none => false
theorem find_nodup {xb : XsT Ky} (nd : (xb.map (·.1)).Nodup) : ∀ {j : Nat} {k : Ky} {p : Addr × Value}, xb[j]? = some (k, p) → xb.find? (fun y => decide (y.1 = k)) = some (k, p) := by
  induction xb with
  | nil => intro j k p h; cases h
  | cons y xb ih =>
    intro j k p h
    rw [List.map_cons, List.nodup_cons] at nd
    cases j with
    | zero =>
      cases h
      rw [List.find?_cons_of_pos (by simp)]
    | succ j =>
      have hm : xb[j]? = some (k, p) := by simpa using h
      have ne : ¬ y.1 = k := fun e => nd.1 (by rw [e]; exact List.mem_map.mpr ⟨(k, p), List.mem_of_getElem? hm, rfl⟩)
      rw [List.find?_cons_of_neg (by simpa using ne)]
      exact ih nd.2 hm
theorem find_no {xb : XsT Ky} {k : Ky} (h : ∀ (j : Nat) (p : Addr × Value), xb[j]? ≠ some (k, p)) : xb.find? (fun y => decide (y.1 = k)) = none := by
  rw [List.find?_eq_none]
  intro y hy e
  obtain ⟨j, hj⟩ := List.mem_iff_getElem?.mp hy
  have e : y.1 = k := of_decide_eq_true e
  exact h j y.2 (by rw [hj, ← e])
theorem sameT {nm : String} {a b : Addr} {xa xb : XsT Ky} {n m : Ky × Addr × Value → Int} {Q : Bool → Shared → Prop} (hu : knd.room A) (ha : (a == sysModules) = false) (hb : (b == sysModules) = false)
    (da : s.heap.DictOfH knd a xa) (db : s.heap.DictOfH knd b xb) (na : ∀ x ∈ xa, ∃ t, x.2.2 = Value.int (n x) t) (nb : ∀ x ∈ xb, ∃ t, x.2.2 = Value.int (m x) t) (h : Q (xa.length == xb.length && hitsT xb xa n m) s) :
    wpAny (model P w) A (Builtin.Dict.samePairs nm a b) Q E s := by
  obtain ⟨oa, ea, pa, goa, _, dda, hea, hia, hna⟩ := da
  obtain ⟨ob, eb, pb, gob, _, ddb, heb, hib, hnb⟩ := db
  have la : ea.size = xa.length := size_of_entries hea
  have lb : eb.size = xb.length := size_of_entries heb
  unfold Builtin.Dict.samePairs Builtin.Dict.showsAll
  rw [if_neg (show ¬ (a == sysModules) = true from fun z => by rw [ha] at z; cases z), if_neg (show ¬ (b == sysModules) = true from fun z => by rw [hb] at z; cases z)]
  refine wpAny_bind (wpAny_pure (wpAny_bind (wpAny_pure (wpAny_bind (wpAny_dictEntries goa dda ?_)))))
  dsimp only
  refine wpAny_bind (wpAny_dictEntries gob ddb ?_)
  by_cases hz : ea.size = eb.size
  case neg =>
    rw [if_pos (by simpa using hz)]
    have f : (xa.length == xb.length) = false := by
      rw [beq_eq_false_iff_ne]
      omega
    rw [f, Bool.false_and] at h
    exact wpAny_bind (wpAny_rule (wpAny_pure h))
  case pos =>
    have f : (xa.length == xb.length) = true := by
      rw [beq_iff_eq]
      omega
    rw [f, Bool.true_and] at h
    rw [if_neg (by rw [hz]; simp)]
    refine wpAny_bind (wpAny_dictEpoch goa dda (wpAny_bind ?_))
    rw [Std.Legacy.Range.forIn_eq_forIn_range']
    simp only [Std.Legacy.Range.size, Nat.sub_zero, Nat.add_sub_cancel, Nat.div_one]
    refine wpAny_forIn_list _ (fun rest q s' => s' = s ∧ q = (none, ()) ∧ ∃ i, i ≤ ea.size ∧ rest = List.range' i (ea.size - i) ∧ hitsT xb xa n m = hitsT xb (xa.drop i) n m) _ ?_ ?_ _ _ ⟨rfl, rfl, 0, Nat.zero_le _, by simp, rfl⟩
    · rintro x rest q s' ⟨rfl, rfl, i, hi, hr, hh⟩
      have lt : i < ea.size := by
        rcases Nat.lt_or_ge i ea.size with z | z
        · exact z
        · rw [Nat.sub_eq_zero_of_le z] at hr
          simp at hr
      have e0 : ea.size - i = (ea.size - (i + 1)) + 1 := by omega
      rw [e0, List.range'_succ] at hr
      injection hr with e1 e2
      subst e1
      refine wpAny_bind (wpAny_dictEntries goa dda ?_)
      obtain ⟨⟨k, p⟩, hk⟩ : ∃ y, xa[x]? = some y := ⟨xa[x]'(by omega), List.getElem?_eq_getElem _⟩
      have hk2 : ea[x]? = some (entryOfKey knd (k, p)) := by rw [entry_at hea, hk]; rfl
      rw [hk2]
      obtain ⟨tv, ev⟩ := na (k, p) (List.mem_of_getElem? hk)
      have dr : xa.drop x = (k, p) :: xa.drop (x + 1) := by
        rw [← List.getElem_cons_drop (h := by omega)]
        rw [List.getElem?_eq_getElem (by omega)] at hk
        rw [Option.some.inj hk]
      have hc : hitsT xb (xa.drop x) n m = ((match xb.find? fun y => decide (y.1 = k) with
          | some y => decide (n (k, p) = m y)
          | none => false) && hitsT xb (xa.drop (x + 1)) n m) := by rw [dr]; rfl
      have isk := hia _ (List.mem_of_getElem? hk)
      show wpAny _ _ (holding [Value.ref p.1, p.2] _ >>= _) _ _ _
      refine wpAny_bind (wpAny_holding (wpAny_bind (wpAny_dictFind_heap hu isk gob ddb heb hib hnb (fun hno => ?_) (fun j pj hj => ?_))))
      · rw [find_no hno] at hc
        rw [hh, hc] at h
        refine wpAny_pure ?_
        show wpAny _ _ (if (!false) = true then _ else _) _ _ _
        rw [if_pos (by decide)]
        exact wpAny_pure (wpAny_pure h)
      · rw [find_nodup hnb hj] at hc
        refine wpAny_bind (wpAny_dictEntries gob ddb ?_)
        have hj2 : eb[j]? = some (entryOfKey knd (k, pj)) := by rw [entry_at heb, hj]; rfl
        rw [hj2]
        obtain ⟨tu, eu⟩ := nb (k, pj) (List.mem_of_getElem? hj)
        show wpAny _ _ (holding [pj.2] (eqBool p.2 pj.2)) _ _ _
        have ev : p.2 = Value.int (n (k, p)) tv := ev
        have eu : pj.2 = Value.int (m (k, pj)) tu := eu
        rw [ev, eu]
        refine wpAny_holding (SeqAt.EqAt.int_int _ _ _ _ _ _ _ _ ?_)
        have hc : hitsT xb (xa.drop x) n m = (decide (n (k, p) = m (k, pj)) && hitsT xb (xa.drop (x + 1)) n m) := hc
        by_cases eq : n (k, p) = m (k, pj)
        · have hq : ((n (k, p)) == (m (k, pj))) = true := by simpa using eq
          rw [hq]
          rw [decide_eq_true eq, Bool.true_and] at hc
          show wpAny _ _ (if (!true) = true then _ else _) _ _ _
          rw [if_neg (by decide)]
          refine wpAny_bind (wpAny_dictEpoch goa dda ?_)
          rw [if_neg (by simp)]
          exact wpAny_pure ⟨rfl, rfl, x + 1, lt, e2, hh.trans hc⟩
        · have hq : ((n (k, p)) == (m (k, pj))) = false := by simpa using eq
          rw [hq]
          rw [decide_eq_false eq, Bool.false_and] at hc
          rw [hh, hc] at h
          show wpAny _ _ (if (!false) = true then _ else _) _ _ _
          rw [if_pos (by decide)]
          exact wpAny_pure (wpAny_pure h)
    · rintro q s' ⟨rfl, rfl, i, hi, hr, hh⟩
      have e : i = ea.size := by
        rcases Nat.lt_or_ge i ea.size with z | z
        · have e0 : ea.size - i = (ea.size - (i + 1)) + 1 := by omega
          rw [e0, List.range'_succ] at hr
          cases hr
        · omega
      rw [e, la, List.drop_length] at hh
      rw [hh] at h
      exact wpAny_pure h
theorem rcT {a b : Addr} {xa xb : XsT Ky} {n m : Ky × Addr × Value → Int} {E Q : Value → Shared → Prop} (hu : knd.room A.in1) (hl : A.units < cLine) (ha : (a == sysModules) = false) (hb : (b == sysModules) = false)
    (da : s.heap.DictOfH knd a xa) (db : s.heap.DictOfH knd b xb) (na : ∀ x ∈ xa, ∃ t, x.2.2 = Value.int (n x) t) (nb : ∀ x ∈ xb, ∃ t, x.2.2 = Value.int (m x) t) (h : Q (.bool (xa.length == xb.length && hitsT xb xa n m)) s) :
    wpAny (model P w) A (richCompare .Eq (.ref a) (.ref b)) Q E s := by
  refine wpAny_richCompare_same_room (op := .Eq) da.typeIs db.typeIs PySem.F.slot_dict_eq (wpAny_call_entry PySem.F.slot_dict_eq da.typeIs PySem.F.entry_dict_eq ?_ (PySem.F.args_dict_eq_2 _ _)) hl
  show wpAny _ _ (Builtin.Dict.dictSlotArgs "__eq__" ⟨[.ref a, .ref b], []⟩ >>= _) _ _ s
  refine wpAny_bind ?_
  unfold Builtin.Dict.dictSlotArgs
  refine wpAny_bind (wpAny_notOrdered_dict da.typeIs ?_)
  show wpAny _ _ (pure (Value.ref a, Value.ref b)) _ _ s
  refine wpAny_pure ?_
  refine wpAny_bind (wpAny_isInstance (T := "dict") db.typeIs PySem.F.sub_dict_dict ?_)
  simp only [Bool.not_true, Bool.false_eq_true, if_false]
  refine wpAny_bind (wpAny_pure (wpAny_bind (wpAny_pure ?_)))
  refine wpAny_bind (sameT hu ha hb da db na nb ?_)
  refine wpAny_pure ⟨_, rfl, ?_, ?_⟩
  · exact fun x => nomatch x
  · simpa using h
end
/-- the number that stands there -/
def numOf : Value → Int
  | .int i _ => i
  | _ => 0
/-- both hold the same pairs -/
def eqDT (ka kb : List (List Key × V)) : Bool := ka.length == kb.length && ka.all fun kv => decide (valV kb kv.1 = some kv.2)
def rEqDT (g : Bool → Bool) : R2 := fun x y H Q => ∃ (a b : Addr) (ka kb : List (List Key × V)), x = .ref a ∧ y = .ref b ∧ Rd H a (.dT ka) ∧ Rd H b (.dT kb) ∧ (∀ kv ∈ ka, ∃ n, kv.2 = .int n) ∧ (∀ kv ∈ kb, ∃ n, kv.2 = .int n) ∧ Q (.bl (g (eqDT ka kb))) H
theorem ints_at {H : Hp} : ∀ {kvs : List (List Key × V)} {xs : List (List Key × Addr × Value)}, KT H kvs xs → (∀ kv ∈ kvs, ∃ n, kv.2 = .int n) → ∀ x ∈ xs, ∃ t, x.2.2 = Value.int (numOf x.2.2) t
  | _, _, .nil, _, x, h => absurd h List.not_mem_nil
  | _, _, .cons r t, g, x, h => by
    rcases List.mem_cons.mp h with e | e
    · subst e
      obtain ⟨n, hn⟩ := g _ List.mem_cons_self
      have r3 := r.2.2
      rw [hn] at r3
      obtain ⟨t, e⟩ := r3
      rw [e]
      exact ⟨t, rfl⟩
    · exact ints_at t (fun kv hk => g kv (List.mem_cons_of_mem _ hk)) x e
theorem find_at {H : Hp} (k : List Key) : ∀ {kvs : List (List Key × V)} {xs : List (List Key × Addr × Value)}, KT H kvs xs → (∀ kv ∈ kvs, ∃ n, kv.2 = .int n) →
    (xs.find? fun y => decide (y.1 = k)).map (fun y => V.int (numOf y.2.2)) = valV kvs k
  | _, _, .nil, _ => rfl
  | (kk, v) :: kvs, (kq, p) :: xs, .cons r t, g => by
    have ih := find_at k t (fun kv hk => g kv (List.mem_cons_of_mem _ hk))
    obtain ⟨e1, e2, e3⟩ := r
    have e1 : kk = kq := e1
    subst e1
    obtain ⟨n, hn⟩ := g _ List.mem_cons_self
    have hn : v = .int n := hn
    have e3 : RelV v p.2 := e3
    rw [hn] at e3
    obtain ⟨tt, et⟩ := e3
    unfold valV at ih ⊢
    by_cases e : kk = k
    · rw [List.find?_cons_of_pos (by simpa using e), List.find?_cons_of_pos (by simpa using e)]
      show some (V.int (numOf p.2)) = some v
      rw [et, hn]
      rfl
    · rw [List.find?_cons_of_neg (by simpa using e), List.find?_cons_of_neg (by simpa using e)]
      exact ih
theorem hits_at {H : Hp} {kb : List (List Key × V)} {xb : List (List Key × Addr × Value)} (rb : KT H kb xb) (gb : ∀ kv ∈ kb, ∃ n, kv.2 = .int n) : ∀ {ka : List (List Key × V)} {xa : List (List Key × Addr × Value)}, KT H ka xa → (∀ kv ∈ ka, ∃ n, kv.2 = .int n) →
    hitsT xb xa (fun x => numOf x.2.2) (fun x => numOf x.2.2) = ka.all fun kv => decide (valV kb kv.1 = some kv.2)
  | _, _, .nil, _ => rfl
  | (kk, v) :: ka, (kq, p) :: xa, .cons r t, g => by
    have ih := hits_at rb gb t (fun kv hk => g kv (List.mem_cons_of_mem _ hk))
    obtain ⟨e1, e2, e3⟩ := r
    have e1 : kk = kq := e1
    subst e1
    obtain ⟨n, hn⟩ := g _ List.mem_cons_self
    have hn : v = .int n := hn
    have e3 : RelV v p.2 := e3
    rw [hn] at e3
    obtain ⟨tt, et⟩ := e3
    unfold hitsT at ih ⊢
    rw [List.all_cons, List.all_cons, ih]
    dsimp only
    rw [← find_at kk rb gb, hn]
    have hp : numOf p.2 = n := by rw [et]; rfl
    simp only [hp]
    congr 1
    cases xb.find? fun y => decide (y.1 = kk) with
    | none => simp
    | some y =>
      show decide (n = numOf y.2.2) = decide (some (V.int (numOf y.2.2)) = some (V.int n))
      rw [decide_eq_decide]
      constructor
      · intro h
        rw [h]
      · intro h
        injection h with h
        injection h with h
        exact h.symm
section
variable {X : Cx}
theorem op_eqDT (hu : X.A.units + 64 < cLine) : OpR X (compareOp .Eq) (rEqDT fun b => b) := by
  intro pins s σ H x y v u Q I rx ry h
  obtain ⟨a, b, ka, kb, rfl, rfl, ha, hb, na, nb, q⟩ := h
  cases rx
  cases ry
  obtain ⟨_, h1, xa, ra, da⟩ := dt_rd I.hok ha
  obtain ⟨_, h2, xb, rb, db⟩ := dt_rd I.hok hb
  refine rcT (n := fun x => numOf x.2.2) (m := fun x => numOf x.2.2) (tupleKind_room_in1 (by omega)) (by omega) h1 h2 da db (ints_at ra na) (ints_at rb nb) ?_
  rw [hits_at rb nb ra na, ← Paired.length ra, ← Paired.length rb]
  exact ⟨.bl _, H, I, rfl, q⟩
end
end Fv


set_option Elab.async false
set_option linter.all false
set_option maxRecDepth 100000
set_option maxHeartbeats 4000000
/-! list(x) and x = [..] at none of the first places -/
namespace Fv
open PySem PySem.Spec PyProof.Rows L2
/-- list(x) of a list: a new list at none of the first places -/
def rListL (K : PySem.W.Frag) : List V → Hp → VK → Prop := fun xs H Q => ∃ p ys, xs = [.ref p] ∧ SqL K H p ys ∧ ∀ l, H l = none → l ≠ sysModules → Q (.ref l) (upd H l (.lst ys))
theorem call_listL {X : Cx} : CallR X (.type "list") (rListL X.K) := by
  intro pins s σ H xs us Q I r h
  obtain ⟨p, ys, ex, hT, q⟩ := h
  subst ex
  obtain ⟨v, ev, rv⟩ := vals1 r
  subst ev
  obtain rfl : v = Value.ref p := rv
  obtain ⟨items, ri, pl, room⟩ := I.list hT
  obtain ⟨ob, hob, hcl, cap, hda⟩ := pl.isList
  have hn := ri.length
  refine call_list_seq p (.inl rfl) hob hcl hda (fun hp cp keep new => ?_) (by simp only [List.size_toArray] <;> omega)
  have J : Inv X pins σ (upd H s.heap.objs.size (.lst ys)) { s with heap := hp } := I.laid (t' := s.toks) keep (Nat.le_refl _) ⟨room, items, cp, ri, new⟩
  exact ⟨.ref _, _, J, rfl, q _ (I.hok.fresh (Nat.le_refl _)) (Nat.ne_of_gt I.big)⟩
end Fv
namespace L2
open PySem PySem.Spec PyProof.Rows
variable {X : Cx}
/-! ### name = [..] on one line, the list at none of the first places -/
theorem lcB_core {pins : List (Addr × Obj)} {s : Shared} {σ : L2.St} {H : Hp} {Q : VK} {elt tg iter : Expr} {ifs : List Expr} {scope : Scope} {own : List (PySem.Str × Nat)} {pos pos2 : Pos} {wi : TI} {g : TG} {tt : TT} {te : TE} {use : Option (Value → Sem Unit)} {Qf : Value → Shared → Prop}
    (hc : X.calm = true) (hN : X.N.Nodup) (I : Inv X pins σ H s) (hi : PI X tg iter wi) (ok : BlkOk X.N X.env.scope scope own)
    (hg : ∀ (s : Shared) (H : Hp) (C : Addr) (cl : List (PySem.Str × Addr)) (fp : List Addr), PG (X.blk s H scope (compEnvC scope cl C X.env) fp) tg g) (ht : ∀ (s : Shared) (H : Hp) (C : Addr) (cl : List (PySem.Str × Addr)) (fp : List Addr), PTs (X.blk s H scope (compEnvC scope cl C X.env) fp) ifs tt)
    (he : ∀ (s : Shared) (H : Hp) (C : Addr) (cl : List (PySem.Str × Addr)) (fp : List Addr), PE (X.blk s H scope (compEnvC scope cl C X.env) fp) elt te) (hs : ∀ x, foldedSetIterable iter X.env x = pure x)
    (h : Fv.tLcB wi g tt te (own.map (·.2)) σ H Q)
    (hRR : ∀ D C s' m H', Inv X pins σ H' s' → Q (.ref D) H' → s'.heap.Ns C m → FpOk X pins H' C → compPost (model X.prog X.w) X.A X.xe use Qf (.ref D) C (.ok .next) s') :
    wpAny (model X.prog X.w) X.A (comprehension (.ListComp elt [⟨tg, iter, ifs, 0⟩] scope pos) scope X.env pos2 (newList []) false (eval iter X.env) use) Qf X.xe s := by
  have free : ∀ y ∈ scope.names, y.2 = .free → ∃ c, X.env.cells.lookup y.1 = some c := fun y hy e => (ok.free y hy e).elim (fun k => I.ok.has _ (.inl k)) fun k => I.ok.has _ (.inr k)
  refine wpAny_comprehension_free (use := use) rfl hs (closure_ok free) ok.kind (fun y hy e => by rw [ok.uniq y hy, e]) (thn (hi.run pins s σ H _ I h) fun xv s1 hx => thn hx fun itv s2 ⟨it, fp, tn, J, H2, e2, I2, T, st2, f2, q⟩ => ?_)
  subst e2
  refine wpAny_newObj_type (newEnv_comp ?_) (by show 0 ≤ sizeLine; decide)
  have nD : H2 s2.heap.objs.size = none := I2.hok.fresh (Nat.le_refl _)
  have big := Nat.ne_of_gt I2.big
  obtain ⟨W, ⟨m0, w0⟩, turn⟩ := q _ nD big
  have I3 : Inv X pins σ (upd H2 s2.heap.objs.size (.lst [])) { s2 with heap := s2.heap.push { cls := .type "list", data := .seq ([] : List Value).toArray } } :=
    I2.laid (t' := s2.toks) (fun b o e => Heap.get?_push_of_some _ e) (Nat.le_refl _) ⟨Nat.zero_le _, [], 0, .nil, Heap.get?_push_size _ rfl⟩
  have szf : ∀ b ∈ fp, b < s2.heap.objs.size := fun b hb => let ⟨_, e, _⟩ := T.obj _ _ st2 b hb; Heap.lt_size e
  obtain ⟨D, eD⟩ : ∃ D, D = s2.heap.objs.size := ⟨_, rfl⟩
  rw [← eD] at nD w0 turn I3 szf ⊢
  have k3 : ∀ b o, s2.heap.get? b = some o → (s2.heap.push { cls := .type "list", data := .seq ([] : List Value).toArray }).get? b = some o := fun b o e => Heap.get?_push_of_some _ e
  have z3 : (s2.heap.push { cls := .type "list", data := .seq ([] : List Value).toArray }).objs.size = D + 1 := by rw [Heap.size_push, eD]
  generalize e3 : ({ s2 with heap := s2.heap.push { cls := .type "list", data := .seq ([] : List Value).toArray } } : Shared) = s3 at I3 ⊢
  have h3 : s3.heap = s2.heap.push { cls := .type "list", data := .seq ([] : List Value).toArray } := by rw [← e3]
  rw [← h3] at k3 z3
  obtain ⟨H3, eH⟩ : ∃ H3, H3 = upd H2 D (.lst []) := ⟨_, rfl⟩
  have fps : ∀ b ∈ fp, FpOk X pins H3 b ∧ b < s3.heap.objs.size := fun b hb => by
    refine ⟨⟨?_, (f2 b hb).2⟩, by rw [z3]; exact Nat.lt_succ_of_lt (szf b hb)⟩
    rw [eH, upd_ne (Nat.ne_of_lt (szf b hb))]
    exact (f2 b hb).1
  rw [← eH] at w0 I3
  have b4 := block_start I3 ok hN fps
  have st3 : tn 0 s3.heap := T.keep _ _ _ st2 fun b _ o e => k3 b o e
  show codeAny _ _ (.compStart (.ListComp elt [⟨tg, iter, ifs, 0⟩] scope pos) 0 (.ref it) (.ref D) (compEnvC scope (cellsFrom (s3.heap.objs.size + 1) scope.names (cloFrom X.env.cells scope.names [])) s3.heap.objs.size X.env)) (compPost (model X.prog X.w) X.A X.xe use Qf (.ref D) s3.heap.objs.size) { s3 with heap := pushCells (s3.heap.push { cls := .type "dict", data := .dict #[] }) scope.names }
  have G1 := hg s3 H3 s3.heap.objs.size (cellsFrom (s3.heap.objs.size + 1) scope.names (cloFrom X.env.cells scope.names [])) fp
  have G2 := ht s3 H3 s3.heap.objs.size (cellsFrom (s3.heap.objs.size + 1) scope.names (cloFrom X.env.cells scope.names [])) fp
  have G3 := he s3 H3 s3.heap.objs.size (cellsFrom (s3.heap.objs.size + 1) scope.names (cloFrom X.env.cells scope.names [])) fp
  generalize ece : compEnvC scope (cellsFrom (s3.heap.objs.size + 1) scope.names (cloFrom X.env.cells scope.names [])) s3.heap.objs.size X.env = ce at b4 G1 G2 G3 ⊢
  have lc : ce.locals = s3.heap.objs.size := by rw [← ece]; rfl
  generalize e4 : ({ s3 with heap := pushCells (s3.heap.push { cls := .type "dict", data := .dict #[] }) scope.names } : Shared) = s4 at b4 ⊢
  have st4 : tn 0 s4.heap := T.keep _ _ _ st3 fun b _ o e => by rw [← e4]; exact pushCells_keeps _ _ _ _ (Heap.get?_push_of_some _ e)
  have still : ∀ {σ' : L2.St} {H' : Hp} {s' : Shared}, Inv (X.blk s3 H3 scope ce fp) [] σ' H' s' → (∀ b ∈ fp, H' b = none) → ∀ b ∈ fp, FpOk (X.blk s3 H3 scope ce fp) [] H' b := fun {σ' H' s'} J hn b hb =>
    ⟨hn b hb, (J.ok.exf b hb).1, J.ok.exfs b hb, Or.inl hb, fun x c e => (J.ok.exf b hb).2 x c e, fun p hp => by simp at hp⟩
  have walk : codeAny (model X.prog X.w) X.A (.compLoop (.ListComp elt [⟨tg, iter, ifs, 0⟩] scope pos) 0 (.ref it) (.ref D) ce) (compPost (model X.prog X.w) X.A X.xe use Qf (.ref D) s3.heap.objs.size) s4 := by
    refine compLoop_any (fun n s' => ∃ (i : Nat) (H' : Hp), Inv (X.blk s3 H3 scope ce fp) [] (wipe σ (own.map (·.2))) H' s' ∧ tn i s'.heap ∧ (∀ b ∈ fp, H' b = none) ∧ W i n H') (fun n s5 ⟨i, H5, I5, st5, n5, w5⟩ => ?_) m0 ⟨0, H3, b4, st4, fun b hb => (fps b hb).1.1, w0⟩
    rcases turn i n H5 w5 with ⟨stop, qq⟩ | ⟨go, Nx, hNx, step⟩
    · refine thnF (T.done (X.blk s3 H3 scope ce fp) rfl rfl rfl hc i [] s5 _ H5 (fun _ _ => False) I5 (still I5 n5) st5 stop) fun r s6 ⟨hr, I6⟩ => ?_
      subst hr
      have J := I3.call' (ch := fp) I6.os I6.base I6.hok I6.bare fun b hb => let f := (fps b hb).1.2; ⟨f.2.2.1, f.1, f.2.2.2.1, f.2.2.2.2⟩
      have nC : H5 s3.heap.objs.size = none := lc ▸ I6.free
      obtain ⟨m, hn, _⟩ := I6.loc
      have hn' : s6.heap.Ns s3.heap.objs.size m := lc ▸ (show s6.heap.Ns ce.locals m from hn)
      exact hRR D s3.heap.objs.size s6 m H5 J qq hn' (I3.fpOk (Nat.le_refl _) nC)
    · refine thnF (T.item (X.blk s3 H3 scope ce fp) rfl rfl rfl hc i [] s5 _ H5 (fun _ _ => False) I5 (still I5 n5) st5 go) fun r s6 ⟨u, hr, h6⟩ => ?_
      subst hr
      refine thnF h6 fun _ s7 ⟨x, H7, I7, r7, y7, st7, n7⟩ => ?_
      have P7 := I7.pinned (still I7 n7) (T.obj _ _ st7)
      refine thnF (G1.run _ s7 _ H7 x u _ P7 r7 (step x H7 y7)) fun _ s8 ⟨σ8, H8, I8, hw8, q8⟩ => thnF (G2.run _ s8 σ8 H8 _ I8 q8) fun b s9 ⟨H9, I9, q9⟩ => ?_
      have fin : ∀ {s' : Shared} {H' : Hp}, Inv (X.blk s3 H3 scope ce fp) ([] ++ pinsAt fp s7.heap) σ8 H' s' → Nx H' → ∃ m, m < n ∧ ∃ (i : Nat) (H' : Hp), Inv (X.blk s3 H3 scope ce fp) [] (wipe σ (own.map (·.2))) H' s' ∧ tn i s'.heap ∧ (∀ b ∈ fp, H' b = none) ∧ W i m H' := fun {s' H'} J nx => by
        obtain ⟨m', hm, w'⟩ := hNx H' nx
        have kept : ∀ b ∈ fp, ∀ o, s7.heap.get? b = some o → s'.heap.get? b = some o ∧ H' b = none := fun b hb o e => by
          have z := J.pin (b, o) (List.mem_append_right _ (List.mem_append_right _ (mem_pinsAt hb e)))
          exact ⟨z.1, z.2.1⟩
        refine ⟨m', hm, i + 1, H', (J.unpinned (pins := [])).weak (by rw [← hw8, wipe_length]) (fun j v e => (wipe_some (hw8 ▸ e)).1), T.keep _ _ _ st7 fun b hb o e => (kept b hb o e).1, fun b hb => ?_, w'⟩
        obtain ⟨o, e, _⟩ := T.obj _ _ st7 b hb
        exact (kept b hb o e).2
      cases b with
      | false =>
        rw [if_neg Bool.false_ne_true] at q9 ⊢
        exact fin I9 q9
      | true =>
        rw [if_pos rfl] at q9 ⊢
        exact thnF (G3.run _ s9 σ8 H9 _ I9 q9) fun z s10 ⟨yv, H10, I10, r10, acc, hD10, room, nx⟩ => app_ok (X := X.blk s3 H3 scope ce fp) I10 hD10 room r10 fun s11 I11 => fin I11 nx
  exact codeAny_compStart_list walk (T.self X.A 0 _ _ _ st4 walk)
theorem ps_setLcB {i : Nat} {y : PySem.Str} {py : Pos} {elt tg iter : Expr} {ifs : List Expr} {scope : Scope} {own : List (PySem.Str × Nat)} {pos spos : Pos} {wi : TI} {g : TG} {tt : TT} {te : TE} (hc : X.calm = true) (hN : X.N.Nodup) (hy : X.N[i]? = some y) (hyl : X.env.scope.names.lookup y = some .local)
    (hsw : swapsWith (.ListComp elt [⟨tg, iter, ifs, 0⟩] scope pos) (some (.Name y py)) spos.line X.env = pure true) (hi : PI X tg iter wi) (ok : BlkOk X.N X.env.scope scope own)
    (hg : ∀ (s : Shared) (H : Hp) (C : Addr) (cl : List (PySem.Str × Addr)) (fp : List Addr), PG (X.blk s H scope (compEnvC scope cl C X.env) fp) tg g) (ht : ∀ (s : Shared) (H : Hp) (C : Addr) (cl : List (PySem.Str × Addr)) (fp : List Addr), PTs (X.blk s H scope (compEnvC scope cl C X.env) fp) ifs tt)
    (he : ∀ (s : Shared) (H : Hp) (C : Addr) (cl : List (PySem.Str × Addr)) (fp : List Addr), PE (X.blk s H scope (compEnvC scope cl C X.env) fp) elt te) (hs : ∀ x, foldedSetIterable iter X.env x = pure x := by intro _; rfl) :
    PS X (.Assign [.Name y py] (.ListComp elt [⟨tg, iter, ifs, 0⟩] scope pos) spos) (tAsg (Fv.tLcB wi g tt te (own.map (·.2))) (gName i)) := by
  constructor
  intro pins s σ H D I h
  rw [exec_Assign_Name_used _ _ _ _ hsw]
  refine wpAny_bind (wpAny_standAt (wpAny_bind (wpAny_bind (thn (lcB_core (Qf := fun _ s' => SP X pins D .next s') hc hN I hi ok hg ht he hs (show Fv.tLcB wi g tt te (own.map (·.2)) σ H (fun x H1 => gName i x σ H1 D.nx) from h) ?_) fun _ s' hq => wpAny_pure (wpAny_pure hq)))))
  intro L C s' m H' J q hn f
  obtain ⟨f0, f1, f2, f3, f4, f5⟩ := f
  show wpAny _ _ (assign (.Name y py) X.env (.ref L)) _ _ _
  refine wpAny_assign_Name (store_ok2 (v := V.ref L) J hN hy (.inl hyl) rfl (fun s2 J2 ⟨a, sb, ha⟩ => ?_) (.inr hyl))
  have nC : C ≠ a := ha.elim (fun z => z ▸ f1) fun z e => f4 y a z e.symm
  exact ⟨m, hn.sameBut sb nC, fun h3 sb3 => ⟨_, H', J2.turned (t' := s2.toks) (fun b o hb e => (sb3.2 b hb).trans e) f0 f1 f3 f4 f5, q⟩⟩
end L2


set_option Elab.async false
set_option linter.all false
set_option maxRecDepth 100000
set_option maxHeartbeats 4000000
namespace Fv
open PySem PySem.Spec PyProof.Rows L2
/-! ### Facts that stand: names(), bounds() -/
abbrev sNamesM : Stmt := inClass (top 18) 1
abbrev sBounds : Stmt := inClass (top 18) 3
/-- a table over the names -/
structure TIn (zs : List Str) (T : M.Tb Str) : Prop where
  few : zs.length ≤ 6
  off : ∀ x, T x x = none
  in_ : ∀ x y c, T x y = some c → SrcIn zs x ∧ SrcIn zs y
theorem TIn.len {zs : List Str} {T : M.Tb Str} (h : TIn zs T) {kvs : List (List Key × V)} (hT : TbL kvs T) : kvs.length ≤ 49 := by
  have h1 := hT.few (("" : Str) :: zs) fun x y c e => by
    obtain ⟨a, b⟩ := h.in_ x y c e
    exact ⟨List.mem_cons.mpr a, List.mem_cons.mpr b⟩
  have h2 : (("" : Str) :: zs).length ≤ 7 := Nat.succ_le_succ h.few
  have h3 := Nat.mul_le_mul h2 h2
  omega
theorem TIn.of {zs : List Str} {T : M.Tb Str} {L : List FaT} {p : Str → Int} {Z : List Str} (hl : zs.length ≤ 6) (cl : M.Cl L p Z T) (hin : ∀ f ∈ L, SrcIn zs f.1 ∧ SrcIn zs f.2.1) : TIn zs T where
  few := hl
  off := cl.off
  in_ := fun x y c e => by
    obtain ⟨⟨y', c', h1, _⟩, x', c'', h2, _⟩ := cl.ends x y c e
    exact ⟨(hin _ h1).1, (hin _ h2).2⟩
def faOf : PyData → FaT
  | .tuple [.str x, .str y, .int c] => (x, y, c)
  | _ => ("", "", 0)
theorem faOf_faD (f : FaT) : faOf (faD f) = f := rfl
theorem fa_ok (L : List FaT) : SortOk (L.map faD) where
  al := fun d hd e he => by
    obtain ⟨f, _, rfl⟩ := List.mem_map.mp hd
    obtain ⟨g, _, rfl⟩ := List.mem_map.mp he
    simp [faD, PySem.W.alike, PySem.W.alikeAll]
  so := .inl fun d hd => by
    obtain ⟨f, _, rfl⟩ := List.mem_map.mp hd
    exact ⟨_, _, rfl⟩
  dp := fun d hd => by
    obtain ⟨f, _, rfl⟩ := List.mem_map.mp hd
    simp [faD, PyData.depth, PyData.depthAll]
/-- the row of a table: each pair once, in order -/
structure Bds (T : M.Tb Str) (L : List FaT) : Prop where
  mem : ∀ x y c, (x, y, c) ∈ L ↔ T x y = some c
  nd : (L.map fun f => (f.1, f.2.1)).Nodup
  so : (L.map faD).Pairwise fun a b => leD a b = true
  len : L.length ≤ 49
theorem ents_nd {kvs : List (List Key × V)} {T : M.Tb Str} (h : TbL kvs T) : ((ents kvs).map fun f => (f.1, f.2.1)).Nodup := by
  have e : kvs.map (·.1) = ((ents kvs).map fun f => (f.1, f.2.1)).map fun q => kP q.1 q.2 := by
    unfold ents
    rw [List.map_map, List.map_map]
    refine List.map_congr_left fun kv hkv => ?_
    obtain ⟨x, y, c, rfl, _⟩ := h.form kv hkv
    rfl
  have nd := h.nd
  rw [e] at nd
  exact (List.pairwise_map.mp nd).imp fun h z => h (by rw [z])
theorem Its.dp {K : PySem.W.Frag} {H : Hp} : ∀ {xs : List V} {L : List FaT}, Its H xs L → DpAll K H xs (L.map faD)
  | [], [], _ => .nil
  | [], f :: L, h => by have := h.len; simp at this
  | x :: xs, [], h => by have := h.len; simp at this
  | x :: xs, f :: L, h => by
    obtain ⟨f', hf, t, rfl, ht⟩ := h.at_ 0 x rfl
    cases hf
    refine .cons (.tup (SqT.of ht) (.cons (.str _) (.cons (.str _) (.cons (.int _) .nil)))) (Its.dp ⟨?_, fun i y e => ?_⟩)
    · have := h.len
      simpa using this
    · have := h.at_ (i + 1) y (by simpa using e)
      simpa using this
def spNamesM (C : Addr) : Sp := fun vs H Q _ => ∃ (x : Addr) (zs : List Str) (T : M.Tb Str), vs = [.ref x] ∧ FacAt C H x zs T ∧ ∀ p, H p = none → p ≠ sysModules → Q (.ref p) (upd H p (.lst (zs.map V.str)))
def spBounds (C : Addr) : Sp := fun vs H Q _ => ∃ (x : Addr) (zs : List Str) (T : M.Tb Str), vs = [.ref x] ∧ FacAt C H x zs T ∧ TIn zs T ∧ ∀ p xs L H', H p = none → p ≠ sysModules → Same H H' → H' p = some (.lst xs) → Its H' xs L → Bds T L → Q (.ref p) H'
section
variable {P : Program} {w : World} {K : PySem.W.Frag} {mg : Str → Option Value} {base : Heap} {C : Addr}
theorem scNm : FnScope ["self"] ["self"] (defScope sNamesM) := ⟨rfl, rfl, rfl, by decide +kernel, rfl, by decide +kernel, by decide +kernel⟩
theorem ok_namesm {f : Addr} {fd : FuncData} (T : FacC K C) (F : Fun K "names" "Facts.names" sNamesM f fd) (mL : mg "list" = none) : FnOk P w K mg base CX0 1 f fd ["self"] (spNamesM C) := by
  refine F.ok scNm (fun vs H Q E h => ?_) (fun cdv A outer s H vs Q E hr h => ?_)
  · obtain ⟨x, zs, T0, rfl, _⟩ := h
    rfl
  · obtain ⟨x, zs, T0, rfl, ⟨n, dx, q0, kvs, h1, h4, h5, h6, h7⟩, q⟩ := h
    refine ⟨_, pss_one (ps_ret (pe_callTy (r := rListL K) call_listL (by rfl) mL boot_list (pa_cons (pe_fld (pv 0) rfl) pa_nil))), ?_⟩
    exact ⟨_, rfl, x, C, dx, _, _, rfl, h1, T.cl, T.n1, rfl, n, _, rfl, SqL.of h4, fun l nl wl => q l nl wl⟩
abbrev nBd : List Str := ["self", "x", "y", "c"]
theorem scBd : FnScope nBd ["self"] (defScope sBounds) := ⟨rfl, rfl, rfl, by decide +kernel, rfl, by decide +kernel, by decide +kernel⟩
theorem ok_bounds {f : Addr} {fd : FuncData} (T : FacC K C) (F : Fun K "bounds" "Facts.bounds" sBounds f fd) (mo : mg "sorted" = none) : FnOk P w K mg base CX0 1 f fd ["self"] (spBounds C) := by
  refine F.ok scBd (fun vs H Q E h => ?_) (fun cdv A outer s H vs Q E hr h => ?_)
  · obtain ⟨x, zs, T0, rfl, _⟩ := h
    rfl
  · obtain ⟨x, zs, T0, rfl, ⟨n, dx, q0, kvs, h1, h4, h5, h6, h7⟩, ti, q⟩ := h
    have hu := hr.units
    refine ⟨_, pss_one (ps_ret (pe_callB (r := rSortD K) (cr_sortD (by exact hu)) (by rfl) mo (by decide +kernel) (pa_cons
      (pe_lock (pe_lc (own := [("x", 1), ("y", 2), ("c", 3)]) (g := gTup K 2 (gCons (gTup K 2 (gCons (gName 1) (gCons (gName 2) gNil))) (gCons (gName 3) gNil))) (tt := tYes) rfl scBd.nd (pi_itemsT (pe_fld (pv 0) rfl)) (blkOk_by (N := nBd) (sc := defScope sBounds) (by decide +kernel))
        (fun _ _ _ _ _ => pg_tup (by rfl) (pgs_cons (pg_tup (by rfl) (pgs_cons (pg_name (i := 1) scBd.nd rfl (.inl rfl)) (pgs_cons (pg_name (i := 2) scBd.nd rfl (.inl rfl)) pgs_nil))) (pgs_cons (pg_name (i := 3) scBd.nd rfl (.inl rfl)) pgs_nil)))
        (fun _ _ _ _ _ => pts_nil) (fun _ _ _ _ _ => pe_tup (pa_cons (pv 1) (pa_cons (pv 2) (pa_cons (pv 3) pa_nil)))))) pa_nil))), ?_⟩
    have kk := ti.len h7
    have xq : x ≠ q0 := ne_of h1 h6 (by intro z; cases z)
    refine ⟨q0, .dT kvs, h6, True.intro, fun od => ?_⟩
    refine ⟨_, rfl, x, C, dx, _, _, rfl, by rw [upd_ne xq]; exact h1, T.cl, T.n2, rfl, q0, od, kvs, rfl, upd_same, fun D nD => ?_⟩
    obtain ⟨Dq, D1⟩ := locked_new nD
    refine lc_it walk_itemsT (fun j H2 => Same (upd H q0 (.frz od (.dT kvs))) H2 ∧ ∃ xs, H2 D = some (.lst xs) ∧ Its H2 xs ((ents kvs).take j))
      ⟨same_upd nD, [], upd_same, .nil⟩ (fun j H2 _ h => h.1 _ _ upd_same) ?_ ?_
    · rintro j x H2 H6 hj ⟨s5, xs2, e2, p2⟩ ⟨N1, kq, kk2, val, hkv, rfl, nN, hkq, rfl⟩
      obtain ⟨fx, fy, fc, rfl, rfl, hT2, hf⟩ := h7.item hkv
      have sN := same_upd (o := .tup [.ref kq, .int fc]) nN
      refine ⟨N1, _, rfl, SqT.of upd_same, rfl, _, _, rfl, ⟨kq, _, rfl, SqT.of (sN _ _ hkq), rfl, _, _, rfl, _, _, rfl, rfl, _, _, rfl, rfl, rfl, ?_⟩⟩
      refine ⟨_, rfl, _, rfl, _, rfl, by show 3 ≤ sizeLine; decide, fun t nt => ?_⟩
      have sT := sN.trans (same_upd (o := .tup [.str fx, .str fy, .int fc]) nt)
      have e1 : (ents kvs).take (j + 1) = (ents kvs).take j ++ [(fx, fy, fc)] := by rw [List.take_succ, hf]; rfl
      refine ⟨xs2, sT _ _ e2, small6k (by rw [p2.len, List.length_take]; omega), fun c o e => ?_, _, upd_same, ?_⟩
      · rw [upd_ne (ne_of_none e nD)]
        exact sT _ _ (s5 c o e)
      · rw [e1]
        refine (p2.samT fun t' ys e => ?_).snoc (by rw [upd_ne (ne_of (sT _ _ e2) upd_same (by intro z; cases z)).symm]; exact upd_same)
        rw [upd_ne (ne_of e e2 (by intro z; cases z))]
        exact sT _ _ e
    rintro H6 ⟨s6', xsK, eK6, pK6⟩
    refine ⟨s6' _ _ upd_same, ?_⟩
    have s6 := unlock h6 s6'
    rw [← ents_len, List.take_length] at pK6
    have eK7 : (upd H6 q0 (.dT kvs)) D = some (.lst xsK) := by rw [upd_ne Dq]; exact eK6
    have pK7 : Its (upd H6 q0 (.dT kvs)) xsK (ents kvs) := pK6.samT fun t ys e => by rw [upd_ne (ne_of e (s6' _ _ upd_same) (by intro z; cases z))]; exact e
    generalize upd H6 q0 (.dT kvs) = H7 at s6 eK7 pK7 ⊢
    refine ⟨D, xsK, (ents kvs).map faD, rfl, SqL.of eK7, fun y hy => ?_, pK7.dp, fa_ok _, fun ys p each np wp => ?_⟩
    · obtain ⟨i, hi⟩ := List.getElem?_of_mem hy
      obtain ⟨f, _, t, rfl, _⟩ := pK7.at_ i y hi
      exact ⟨t, rfl⟩
    have s8 := s6.trans (same_upd (o := .lst ys) np)
    have nH : H p = none := by
      cases e : H p with
      | none => rfl
      | some o =>
        have := s6 _ _ e
        rw [np] at this
        cases this
    have pm := List.mergeSort_perm ((ents kvs).map faD) leD
    have eL : ((((ents kvs).map faD).mergeSort leD).map faOf).map faD = ((ents kvs).map faD).mergeSort leD := by
      rw [List.map_map]
      conv => rhs; rw [← List.map_id (((ents kvs).map faD).mergeSort leD)]
      refine List.map_congr_left fun d hd => ?_
      obtain ⟨f, _, rfl⟩ := List.mem_map.mp (pm.mem_iff.mp hd)
      rfl
    have pL : ((((ents kvs).map faD).mergeSort leD).map faOf).Perm (ents kvs) := by
      have := pm.map faOf
      rw [List.map_map] at this
      have e : (ents kvs).map (faOf ∘ faD) = ents kvs := by
        conv => rhs; rw [← List.map_id (ents kvs)]
        exact List.map_congr_left fun f _ => rfl
      rw [e] at this
      exact this
    refine q p ys ((((ents kvs).map faD).mergeSort leD).map faOf) _ nH wp s8 upd_same ⟨?_, fun i y e => ?_⟩ ⟨fun u v c => ?_, ?_, ?_, ?_⟩
    · rw [each.length, List.length_map]
    · obtain ⟨d, hd, hz⟩ := each_get each i y e
      obtain ⟨j, hj⟩ := List.getElem?_of_mem hz
      obtain ⟨hx, hdj⟩ := List.getElem?_zip_eq_some.mp hj
      obtain ⟨f, hf, t, rfl, ht⟩ := pK7.at_ j y hx
      rw [List.getElem?_map, hf] at hdj
      cases hdj
      refine ⟨f, by rw [List.getElem?_map, hd]; rfl, t, rfl, ?_⟩
      rw [upd_ne (ne_of_none ht np)]
      exact ht
    · rw [pL.mem_iff]
      exact h7.mem
    · exact ((pL.map _).nodup_iff).mpr (ents_nd h7)
    · rw [eL]
      exact leD_sorted _
    · rw [pL.length_eq, ents_len]
      exact kk
end
end Fv


set_option Elab.async false
set_option linter.all false
set_option maxRecDepth 100000
set_option maxHeartbeats 1000000
namespace Fv
open PySem PySem.Spec PyProof.Rows L2
/-! ### what an own error's __init__ leaves -/
def spI1 (C : Addr) (f : Str) : Sp := fun vs H Q _ => ∃ (a : Addr) (y : V), vs = [.ref a, y] ∧ H a = some (exo a C none) ∧ ∀ dx, H dx = none → dx ≠ a → Q .non (upd (upd H dx (exd dx [(f, y)])) a (exo a C (some dx)))
def spI2 (C : Addr) (f g : Str) : Sp := fun vs H Q _ => ∃ (a : Addr) (y z : V), vs = [.ref a, y, z] ∧ H a = some (exo a C none) ∧ ∀ dx, H dx = none → dx ≠ a → Q .non (upd (upd (upd H dx (exd dx [(f, y)])) a (exo a C (some dx))) dx (exd dx [(g, z), (f, y)]))
theorem let_go {H : Hp} {a dx C : Addr} {fs : List (Str × V)} {o o1 o2 : HO} (na : H a = none) (ne : dx ≠ a) : upd (del (upd (upd (upd H a o) dx o1) a o2) a) dx (.xd fs) = upd H dx (.xd fs) := by
  funext b
  by_cases hb : b = dx
  · rw [hb, upd_same, upd_same]
  · rw [upd_ne hb, upd_ne hb]
    by_cases h2 : b = a
    · rw [h2, del_same, na]
    · rw [del_ne h2, upd_ne h2, upd_ne hb, upd_ne h2]
theorem let_go2 {H : Hp} {a dx C : Addr} {fs : List (Str × V)} {o o1 o2 o3 : HO} (na : H a = none) (ne : dx ≠ a) : upd (del (upd (upd (upd (upd H a o) dx o1) a o2) dx o3) a) dx (.xd fs) = upd H dx (.xd fs) := by
  funext b
  by_cases hb : b = dx
  · rw [hb, upd_same, upd_same]
  · rw [upd_ne hb, upd_ne hb]
    by_cases h2 : b = a
    · rw [h2, del_same, na]
    · rw [del_ne h2, upd_ne hb, upd_ne h2, upd_ne hb, upd_ne h2]
structure Own1 (P : Program) (w : World) (K : PySem.W.Frag) (mg : Str → Option Value) (base : Heap) (x f : Str) (C : Addr) : Prop where
  ox : OexC K C
  gC : mg x = some (.ref C)
  made : ∃ (fI : Addr) (fd : FuncData) (ps : List Str), PySem.W.findIn K (.ref C) "__init__" = some (some (.ref fI)) ∧ PySem.W.typeIn K (.ref fI) = some (.type "function") ∧ FnOk P w K mg base CX0 1 fI fd ps (spI1 C f) ∧ Binds K fd ps []
structure Own2 (P : Program) (w : World) (K : PySem.W.Frag) (mg : Str → Option Value) (base : Heap) (x f g : Str) (C : Addr) : Prop where
  ox : OexC K C
  gC : mg x = some (.ref C)
  made : ∃ (fI : Addr) (fd : FuncData) (ps : List Str), PySem.W.findIn K (.ref C) "__init__" = some (some (.ref fI)) ∧ PySem.W.typeIn K (.ref fI) = some (.type "function") ∧ FnOk P w K mg base CX0 1 fI fd ps (spI2 C f g) ∧ Binds K fd ps []
structure Own0 (K : PySem.W.Frag) (mg : Str → Option Value) (x : Str) (C : Addr) : Prop where
  ex : PySem.W.excIn K C [.type "ValueError", .type "Exception", .type "BaseException", .type "object"] "ValueError.__new__" = true
  gC : mg x = some (.ref C)
  kC : PySem.W.keepIn K (.ref C) = true
  bC : PySem.W.subIn K (.ref C) (.type "BaseException") = some true
  tC : PySem.W.typeIn K (.ref C) = some (.type "type")
def tR1 (C : Addr) (f : Str) (te : TE) : L2.St → Hp → XK → Prop := fun σ H Q => te σ H fun y H1 => ∀ d, H1 d = none → Q (.ref C) (some d) (upd H1 d (.xd [(f, y)]))
def tR2 (C : Addr) (f g : Str) (te tu : TE) : L2.St → Hp → XK → Prop := fun σ H Q => te σ H fun y H1 => tu σ H1 fun z H2 => ∀ d, H2 d = none → Q (.ref C) (some d) (upd H2 d (.xd [(g, z), (f, y)]))
section
variable {X : Cx} {x f g : Str} {C : Addr} {e e2 : Expr} {i j : Nat} {q0 pos : Pos}
theorem PMk.imp {e : Expr} {t t' : L2.St → Hp → XK → Prop} (h : PMk X e t) (k : ∀ σ H Q, t' σ H Q → t σ H Q) : PMk X e t' := fun pins s σ H Q I q => h pins s σ H Q I (k σ H Q q)
theorem pmk1 (O : Own1 X.prog X.w X.K X.mg X.base x f C) (hr : Room 2 X.A) (hg : Gl X x) (ha : PA X [e] (tCons (tVar i) tNil)) (hdb : (x == ("__debug__" : Str)) = false := by decide) (he : starEach [e] X.env = (false, eval e X.env) :: starEach [] X.env := by rfl) (hpl : (backTo pos (starEach [] X.env)).any (·.1) = false := by rfl) :
    PMk X (.Call (.Name x q0) [e] [] pos) (tR1 C f (tVar i)) := by
  obtain ⟨fI, fd, ps, iC, tI, F, b⟩ := O.made
  refine PMk.imp (pmk_oex O.ox iC tI F hr b .nil pass0 hg O.gC ha hdb he hpl) fun σ H Q h => ?_
  obtain ⟨y, ey, h⟩ := h
  refine ⟨y, ey, by show 1 ≤ 1000; decide, fun a na => ⟨a, y, rfl, upd_same, fun dx nd ne => ⟨rfl, dx, [(f, y)], upd_same, ?_, ?_, ?_⟩⟩⟩
  · rw [upd_ne ne, upd_same]
  · rw [upd_ne ne] at nd
    exact nd
  · rw [let_go (C := C) na ne]
    rw [upd_ne ne] at nd
    exact h dx nd
theorem pmk2 (O : Own2 X.prog X.w X.K X.mg X.base x f g C) (hr : Room 2 X.A) (hg : Gl X x) (ha : PA X [e, e2] (tCons (tVar i) (tCons (tVar j) tNil))) (hdb : (x == ("__debug__" : Str)) = false := by decide) (he : starEach [e, e2] X.env = (false, eval e X.env) :: starEach [e2] X.env := by rfl) (hpl : (backTo pos (starEach [e2] X.env)).any (·.1) = false := by rfl) :
    PMk X (.Call (.Name x q0) [e, e2] [] pos) (tR2 C f g (tVar i) (tVar j)) := by
  obtain ⟨fI, fd, ps, iC, tI, F, b⟩ := O.made
  refine PMk.imp (pmk_oex O.ox iC tI F hr b .nil pass0 hg O.gC ha hdb he hpl) fun σ H Q h => ?_
  obtain ⟨y, ey, z, ez, h⟩ := h
  refine ⟨y, ey, z, ez, by show 2 ≤ 1000; decide, fun a na => ⟨a, y, z, rfl, upd_same, fun dx nd ne => ⟨rfl, dx, [(g, z), (f, y)], ?_, upd_same, ?_, ?_⟩⟩⟩
  · rw [upd_ne ne.symm, upd_same]
  · rw [upd_ne ne] at nd
    exact nd
  · rw [let_go2 (C := C) na ne]
    rw [upd_ne ne] at nd
    exact h dx nd
theorem pmk0 (O : Own0 X.K X.mg x C) (hg : Gl X x) (hdb : (x == ("__debug__" : Str)) = false := by decide) : PMk X (.Call (.Name x q0) [] [] pos) (fun _ H Q => Q (.ref C) none H) :=
  pmk_bare PySem.F.excBase_ValueError O.ex O.gC O.kC (raises_own O.bC O.tC) hg hdb
end
section
variable {P : Program} {w : World} {K : PySem.W.Frag} {mg : Str → Option Value} {base : Heap}
end
end Fv


set_option Elab.async false
set_option linter.all false
set_option maxRecDepth 100000
set_option maxHeartbeats 2000000
/-! rows of tuples; own errors made of nothing; a promise without its raising side -/
namespace Fv
open PySem PySem.Spec PyProof.Rows L2
/-- items told by tuples -/
structure Tups {α : Type} (g : α → List V) (H : Hp) (xs : List V) (L : List α) : Prop where
  len : xs.length = L.length
  at_ : ∀ (i : Nat) (x : V), xs[i]? = some x → ∃ f : α, L[i]? = some f ∧ ∃ t, x = .ref t ∧ H t = some (.tup (g f))
theorem Tups.nil {α : Type} {g : α → List V} {H : Hp} : Tups g H [] [] := ⟨rfl, fun _ _ e => by cases e⟩
theorem Tups.keep {α : Type} {g : α → List V} {H H' : Hp} {xs : List V} {L : List α} (h : Tups g H xs L) (s : ∀ t ys, H t = some (.tup ys) → H' t = some (.tup ys)) : Tups g H' xs L :=
  ⟨h.len, fun i x e => by obtain ⟨f, hf, t, ht, hh⟩ := h.at_ i x e; exact ⟨f, hf, t, ht, s _ _ hh⟩⟩
theorem Tups.snoc {α : Type} {g : α → List V} {H : Hp} {xs : List V} {L : List α} (h : Tups g H xs L) {t : Addr} {f : α} (e : H t = some (.tup (g f))) : Tups g H (xs ++ [.ref t]) (L ++ [f]) := by
  refine ⟨by rw [List.length_append, List.length_append, h.len]; rfl, fun i x ex => ?_⟩
  rcases Nat.lt_trichotomy i xs.length with l | l | l
  · rw [List.getElem?_append_left l] at ex
    obtain ⟨f, hf, r⟩ := h.at_ i x ex
    exact ⟨f, by rw [List.getElem?_append_left (by rw [← h.len]; exact l)]; exact hf, r⟩
  · subst l
    rw [List.getElem?_append_right (Nat.le_refl _), Nat.sub_self] at ex
    cases ex
    exact ⟨f, by rw [List.getElem?_append_right (by rw [h.len]; exact Nat.le_refl _), h.len, Nat.sub_self]; rfl, t, rfl, e⟩
  · rw [List.getElem?_eq_none (by rw [List.length_append]; exact l)] at ex
    cases ex
theorem Tups.cons {α : Type} {g : α → List V} {H : Hp} {x : V} {xs : List V} {L : List α} : Tups g H (x :: xs) L ↔ ∃ f M, L = f :: M ∧ (∃ t, x = .ref t ∧ H t = some (.tup (g f))) ∧ Tups g H xs M := by
  constructor
  · intro h
    cases L with
    | nil => cases h.len
    | cons f M =>
      obtain ⟨f', e, t, ht⟩ := h.at_ 0 x rfl
      cases e
      exact ⟨f, M, rfl, ⟨t, ht⟩, by have := h.len; rw [List.length_cons, List.length_cons] at this; omega, fun i y e => h.at_ (i + 1) y e⟩
  · rintro ⟨f, M, rfl, ht, h⟩
    refine ⟨by rw [List.length_cons, List.length_cons, h.len], fun i y e => ?_⟩
    cases i with
    | zero =>
      cases e
      exact ⟨f, rfl, ht⟩
    | succ i => exact h.at_ i y e
theorem Tups.perm {α : Type} {g : α → List V} {H : Hp} {xs ys : List V} (p : xs.Perm ys) : ∀ {L : List α}, Tups g H xs L → ∃ M, L.Perm M ∧ Tups g H ys M := by
  induction p with
  | nil => exact fun h => ⟨_, .refl _, h⟩
  | cons x _ ih =>
    intro L h
    obtain ⟨f, M, rfl, ht, h⟩ := Tups.cons.mp h
    obtain ⟨N, pN, hN⟩ := ih h
    exact ⟨f :: N, pN.cons f, Tups.cons.mpr ⟨f, N, rfl, ht, hN⟩⟩
  | swap x y l =>
    intro L h
    obtain ⟨f, M, rfl, ht, h⟩ := Tups.cons.mp h
    obtain ⟨g', N, rfl, ht', h⟩ := Tups.cons.mp h
    exact ⟨g' :: f :: N, .swap _ _ _, Tups.cons.mpr ⟨_, _, rfl, ht', Tups.cons.mpr ⟨_, _, rfl, ht, h⟩⟩⟩
  | trans _ _ ih ih' =>
    intro L h
    obtain ⟨M, pM, hM⟩ := ih h
    obtain ⟨N, pN, hN⟩ := ih' hM
    exact ⟨N, pM.trans pN, hN⟩
theorem Tups.plain {α : Type} {g : α → List V} {H : Hp} {xs : List V} {L : List α} (h : Tups g H xs L) : ∀ v ∈ xs, Plain v := fun v hv => by
  obtain ⟨i, hi⟩ := List.getElem?_of_mem hv
  obtain ⟨f, _, t, rfl, _⟩ := h.at_ i v hi
  exact .inr ⟨t, rfl⟩

/-- C(), C an own class of errors without an own __init__ -/
theorem pmk_own0 {X : Cx} {C : Addr} {bmB : List Value} {B newId initId : String} {x : Str} {p pos : Pos} (F : ExcBaseFacts B newId initId bmB) (q : PySem.W.excIn X.K C bmB newId = true) (gC : X.mg x = some (.ref C)) (kC : PySem.W.keepIn X.K (.ref C) = true) (r : Raises X (.ref C)) (hg : Gl X x)
    (hdb : (x == ("__debug__" : Str)) = false := by decide) : PMk X (.Call (.Name x p) [] [] pos) (fun _ H Q => Q (.ref C) none H) := by
  intro pins s σ H Q I h
  refine wpAny_Call_Name_kw (ld_glob I hg gC ?_ hdb)
  refine PySem.W.callWith_K0 I.kIn kC ?_
  show wpAny _ _ (call (.ref C) []) _ _ _
  obtain ⟨bm, N, nm, qn, bs, hdct, sn, sub, ab, col, dd, k0, k1, k2, k3, k5, mN, hC, hN, hni, T⟩ := exc_obj I.kIn q
  refine wpAny_call_exc_subT F T hC hN hni (fun h' e hm => ?_) (Nat.zero_le _)
  exact mk_of I hm r h (I.hok.gone hm.new)
/-- where it raises nothing -/
theorem fn_calm {P : Program} {w : World} {K : PySem.W.Frag} {mg : Str → Option Value} {base : Heap} {k : Nat} {f : Addr} {fd : FuncData} {ps : List Str} {sp : Sp} (F : FnOk P w K mg base (L2.CX P w) k f fd ps sp) :
    FnOk P w K mg base CX0 k f fd ps (fun vs H Q _ => sp vs H Q E0) :=
  ⟨fun vs H Q E q => F.len vs H Q E0 q, fun A outer s H args us vs Q E hr he hb hv hs => codeAny_mono (F.run A outer s H args us vs Q E0 hr he hb hv hs) fun r s' h => by
    cases r with
    | error e =>
      obtain ⟨a, B, H', cls, d, _, _, _, _, _, _, _, z⟩ := h
      exact z.elim
    | ok fl =>
      cases fl with
      | ret u => exact h
      | next => exact h
      | brk => exact h
      | cont => exact h⟩
/-- o.m(e, ..), what is raised is wished for at the slots -/
def tMethE (C : Addr) (m : Str) (sp : Sp) (E : L2.St → XK) (ta : TE) (t : TA) : TE := fun σ H Q => ta σ H fun x H1 => ∃ a dx fs, x = .ref a ∧ H1 a = some (.ins C dx fs) ∧ fs.lookup m = none ∧ t σ H1 fun vs H2 => sp (x :: vs) H2 Q (E σ)
theorem pe_methE {X : Cx} {CX : CXT} {k : Nat} {C f : Addr} {fd : FuncData} {ps : List Str} {m : Str} {sp : Sp} {E : L2.St → XK} {o e : Expr} {es : List Expr} {ta : TE} {t : TA} {apos pos : Pos} {pl : Sem Bool} (he : PE X o ta) (c : Cls X.K C) (hm : Meth X.K C m f)
    (F : FnOk X.prog X.w X.K X.mg X.base CX k f fd ps sp) (hr : Room k X.A) (hb : Binds X.K fd ps []) (hx : ∀ σ, PassesAt CX X σ (E σ)) (ha : PA X (e :: es) t)
    (hst : starEach (e :: es) X.env = (false, eval e X.env) :: starEach es X.env := by rfl) (hpl : (backTo pos (starEach es X.env)).any (·.1) = false := by rfl)
    (ht : eval (.Call (.Attribute o m apos) (e :: es) [] pos) X.env = (do
      let ov ← eval o X.env
      standAt apos.atName
      let (f, first) ← holding [ov] (getMethod ov m pl)
      callWith pos f first (backTo pos (starEach (e :: es) X.env)) (backToKw pos (keywordEach [] X.env))) := by rfl) :
    PE X (.Call (.Attribute o m apos) (e :: es) [] pos) (tMethE C m sp E ta t) := by
  refine ⟨fun pins s σ H Q I h => ?_⟩
  refine PySem.W.methodCall_KW (pl := pl) (thn (he.run pins s σ H _ I h) fun u s1 ⟨x, H1, I1, rx, a, dx, fs, ex, ea, l, q⟩ => ?_) ht
  subst ex
  obtain rfl : u = Value.ref a := rx
  refine getmeth_ok I1 ea c hm l ?_
  refine PySem.W.callWith_K (first := [.ref a]) (h₀ := X.base) I.ok.mod.kin hm.kp (thn (ha.run pos pins s1 σ H1 _ I1 q) fun us s2 ⟨vs, H2, I2, r, q2⟩ => ⟨I2.kIn, ?_⟩) hst hpl
  exact run_fnS (us := .ref a :: us) (vs := .ref a :: vs) F hr hb (hx σ) I2 (.cons rfl r) q2
end Fv


set_option Elab.async false
set_option linter.all false
set_option maxRecDepth 100000
set_option maxHeartbeats 4000000
namespace Fv
open PySem PySem.Spec PyProof.Rows L2
/-! ### sources that are none -/
theorem scNoName : FnScope ["self", "name"] ["self", "name"] (defScope (inClass (top 4) 0)) := ⟨rfl, rfl, rfl, by decide +kernel, rfl, by decide +kernel, by decide +kernel⟩
theorem own_NoName {P : Program} {w : World} {K : PySem.W.Frag} {mg : Str → Option Value} {base : Heap} {f C : Addr} {fd : FuncData} (F : Fun K "__init__" "NoName.__init__" (inClass (top 4) 0) f fd) (O : OexC K C) (no : PySem.W.findIn K (.ref C) "name" = some none) (gC : mg "NoName" = some (.ref C)) (iC : PySem.W.findIn K (.ref C) "__init__" = some (some (.ref f))) (tI : PySem.W.typeIn K (.ref f) = some (.type "function")) : Own1 P w K mg base "NoName" "name" C := by
  refine ⟨O, gC, f, fd, ["self", "name"], iC, tI, F.ok scNoName (fun vs H Q E h => ?_) (fun cdv A outer s H vs Q E hr h => ?_), F.binds fun _ _ _ _ _ _ us hl => match us, hl with | [_, _], _ => rfl⟩
  · obtain ⟨a, y, rfl, _⟩ := h
    rfl
  · obtain ⟨a, y, rfl, ha, q⟩ := h
    exact ⟨_, pss_one (ps_ost (pv 0) (pv 1)), _, rfl, _, rfl, a, C, rfl, O, no, .inl ⟨ha, q⟩⟩
/-- the first source that is none -/
def FirstBad (zs : List Str) (L : List FaT) (u : Str) : Prop := ∃ (i : Nat) (f : FaT), L[i]? = some f ∧ (∀ (j : Nat) (g : FaT), j < i → L[j]? = some g → SrcIn zs g.1 ∧ SrcIn zs g.2.1) ∧
  ((f.1 = u ∧ ¬ SrcIn zs f.1) ∨ (SrcIn zs f.1 ∧ f.2.1 = u ∧ ¬ SrcIn zs f.2.1))
def spChkSA (CE : Addr) : Sp := fun vs H Q E => ∃ (n a : Addr) (zs : List Str) (xs : List V) (L : List FaT), vs = [.ref n, .ref a] ∧ H n = some (.lst (zs.map V.str)) ∧ zs.length ≤ 60 ∧ H a = some (.lst xs) ∧ Its H xs L ∧
  ((∀ f ∈ L, SrcIn zs f.1 ∧ SrcIn zs f.2.1) → ∀ H', Same H H' → Q .non H') ∧
  ∀ u, FirstBad zs L u → ∀ (H1 : Hp) (dx : Addr), Same H H1 → H1 dx = none → E (.ref CE) (some dx) (upd H1 dx (.xd [("name", .str u)]))
theorem srcIn_dec (zs : List Str) (u : Str) : SrcIn zs u ∨ ¬ SrcIn zs u := Classical.em _
section
variable {P : Program} {w : World} {K : PySem.W.Frag} {mg : Str → Option Value} {base : Heap} {C CE : Addr}
theorem ok_chksA {f : Addr} {fd : FuncData} (F : Fun K "_check_sources" "_check_sources" sChkSrc f fd) (O : Own1 P w K mg base "NoName" "name" CE) : FnOk P w K mg base (L2.CX P w) 3 f fd ["names", "facts"] (spChkSA CE) := by
  refine F.okX scCs (fun vs H Q E h => ?_) (fun cdv A outer s H vs Q E hr h => ?_)
  · obtain ⟨n, a, zs, xs, L, rfl, _⟩ := h
    rfl
  · obtain ⟨n, a, zs, xs, L, rfl, hn, hz, ha, hx, q, qE⟩ := h
    have hu := hu_of hr
    refine ⟨_, pss_cons (ps_setDc (i := 2) (own := [("name", 7)]) (g := gName 7) (tt := tYes) rfl scCs.nd rfl rfl (swD_true rfl rfl rfl (by decide +kernel)) (pi_list (pv 0)) (blkOk_by (N := nCs) (sc := defScope sChkSrc) (by decide +kernel))
        (fun _ _ _ _ _ => pg_name (i := 7) scCs.nd rfl (Or.inl rfl)) (fun _ _ _ _ _ => pts_nil) (fun _ _ _ _ _ => pv 7) (fun _ _ _ _ _ => pe_bl))
      (pss_one (ps_for (passes_of rfl) rfl (pi_list (pv 1)) (pg_tup (by rfl) (pgs_cons (pg_name (i := 3) scCs.nd rfl (.inl rfl)) (pgs_cons (pg_name (i := 4) scCs.nd rfl (.inl rfl)) (pgs_cons (pg_name (i := 5) scCs.nd rfl (.inl rfl)) pgs_nil))))
        (pss_one (ps_for (passes_of rfl) rfl (pi_tup (pe_tup (pa_cons (pv 3) (pa_cons (pv 4) pa_nil)))) (pg_name (i := 6) scCs.nd rfl (.inl rfl))
          (pss_one (ps_if (PW.pt (pw_and (pt_cmpR op_ne (pv 6) pe_str (nomark _)) (pw_and1 (pt_cmp (pc_dnotin hu (pv 6) (pv 2))))))
            (pss_one (ps_raise (W := fun cls d _ H => E cls d H) rfl (takes_of rfl rfl rfl rfl) (pmk1 O hr (by rfl) (pa_cons (pv 6) pa_nil)))) pss_nil)))))), ?_⟩
    refine ⟨_, rfl, n, rfl, ⟨_, SqL.of hn⟩, fun D hD => ?_⟩
    refine dc_it (walk_list (K := K) (a := n) (xs := zs.map V.str)) (fun i H' => Same H H' ∧ H' D = some (.dK (dkOf (zs.take i)))) ⟨same_upd hD, upd_same⟩ (fun i H' _ h => SqL.of (h.1 _ _ hn)) ?_ ?_
    · rintro i x H' H2 hi ⟨s', e'⟩ ⟨rfl, hxi⟩
      obtain ⟨z, hzi, rfl⟩ : ∃ z, zs[i]? = some z ∧ x = .str z := by
        rw [List.getElem?_map] at hxi
        cases e : zs[i]? with
        | none => rw [e] at hxi; cases hxi
        | some z => rw [e] at hxi; cases hxi; exact ⟨z, rfl, rfl⟩
      have et : zs.take (i + 1) = zs.take i ++ [z] := by rw [List.take_succ, hzi]; rfl
      refine ⟨rfl, _, rfl, _, Sum.inr z, rfl, e', ?_, fun c o e => ?_, ?_⟩
      · exact Nat.lt_of_le_of_lt (dkOf_both _ _ rfl).1 (small60 (by rw [List.length_take]; omega))
      · rw [upd_ne (ne_of_none e hD)]
        exact s' c o e
      · rw [upd_same, et, dkOf_snoc]
    · rintro H1 ⟨s1, e1⟩
      rw [List.length_map, List.take_length] at e1
      have vz := (dkOf_both _ zs rfl).2
      dsimp only [gName]
      refine ⟨_, rfl, a, rfl, ⟨_, SqL.of (s1 _ _ ha)⟩, ?_⟩
      refine for_list (K := K) (a := a) (xs := xs) (fun i σ H' => ∃ y3 y4 y5 y6 y7 : Option V, σ = [some (.ref n), some (.ref a), some (.ref D), y3, y4, y5, y6, y7] ∧ Same H1 H' ∧ ∀ (j : Nat) (g : FaT), j < i → L[j]? = some g → SrcIn zs g.1 ∧ SrcIn zs g.2.1)
        ⟨none, none, none, none, _, rfl, fun _ _ e => e, fun j g h => absurd h (Nat.not_lt_zero j)⟩ (fun i σ H' _ h => by obtain ⟨_, _, _, _, _, _, s', _⟩ := h; exact SqL.of (s' _ _ (s1 _ _ ha))) ?_ ?_
      · rintro i x σ H' hxi ⟨y3, y4, y5, y6, y7, rfl, s', hb⟩
        obtain ⟨⟨fx, fy, fc⟩, hf, t, rfl, ht⟩ := hx.at_ i x hxi
        refine ⟨t, _, rfl, SqT.of (s' _ _ (s1 _ _ ht)), rfl, _, _, rfl, _, _, rfl, _, _, rfl, rfl, ?_⟩
        refine ⟨_, rfl, _, rfl, by show 2 ≤ sizeLine; decide, fun p np => ?_⟩
        have sp := same_upd (o := .tup [.str fx, .str fy]) np
        refine ⟨p, rfl, ⟨_, SqT.of upd_same⟩, ?_⟩
        refine for_tup (K := K) (a := p) (xs := [.str fx, .str fy]) (fun i σ H2 => (∃ y6 y7 : Option V, σ = [some (.ref n), some (.ref a), some (.ref D), some (.str fx), some (.str fy), some (.int fc), y6, y7] ∧ H2 = upd H' p (.tup [.str fx, .str fy])) ∧ (1 ≤ i → SrcIn zs fx) ∧ (2 ≤ i → SrcIn zs fy))
          ⟨⟨y6, y7, rfl, rfl⟩, fun h => absurd h (by decide), fun h => absurd h (by decide)⟩ (fun i σ H2 _ h => by obtain ⟨⟨_, _, _, rfl⟩, _⟩ := h; exact SqT.of upd_same) ?_ ?_
        · rintro j x σ H2 hxj ⟨⟨y6, y7, rfl, rfl⟩, hb1, hb2⟩
          obtain ⟨z, rfl, hz0, hz1⟩ : ∃ z, x = .str z ∧ (j = 0 → z = fx) ∧ (j ≠ 0 → j = 1 ∧ z = fy) := by
            match j, hxj with
            | 0, h => cases h; exact ⟨fx, rfl, fun _ => rfl, fun h => absurd rfl h⟩
            | 1, h => cases h; exact ⟨fy, rfl, (fun h => by cases h), fun _ => ⟨rfl, rfl⟩⟩
          have good : SrcIn zs z → (1 ≤ j + 1 → SrcIn zs fx) ∧ (2 ≤ j + 1 → SrcIn zs fy) := fun h => by
            by_cases e : j = 0
            · rw [← hz0 e]
              exact ⟨fun _ => h, fun h2 => absurd h2 (by omega)⟩
            · obtain ⟨e1, e2⟩ := hz1 e
              rw [← e2]
              exact ⟨fun _ => hb1 (by omega), fun _ => h⟩
          refine ⟨_, rfl, rfl, _, rfl, ite2 (fun e => ?_) (fun e => ?_)⟩
          · have nz : z ≠ "" := fun q => by simp [q] at e
            have sm := vz z
            refine ⟨_, rfl, _, rfl, D, _, rfl, DGet.k (k := Sum.inr z) (sp _ _ (s' _ _ e1)), ?_⟩
            rw [sm]
            by_cases hm : z ∈ zs
            · rw [decide_eq_true hm]
              exact ⟨_, rfl, iteF ⟨⟨_, _, rfl, rfl⟩, good (.inr hm)⟩⟩
            · rw [decide_eq_false hm]
              have bad : ¬ SrcIn zs z := fun h => h.elim nz hm
              refine ⟨_, rfl, iteT ⟨_, rfl, fun dx nd => ?_⟩⟩
              refine qE z ⟨i, (fx, fy, fc), hf, hb, ?_⟩ _ dx (s1.trans (s'.trans sp)) nd
              by_cases e : j = 0
              · exact .inl ⟨(hz0 e).symm, by rw [show (fx, fy, fc).1 = fx from rfl, ← hz0 e]; exact bad⟩
              · obtain ⟨e1, e2⟩ := hz1 e
                exact .inr ⟨hb1 (by omega), e2.symm, by rw [show (fx, fy, fc).2.1 = fy from rfl, ← e2]; exact bad⟩
          · have ez : z = "" := by
              by_cases q : z = ""
              · exact q
              · exact absurd (by simp [q]) e
            exact ⟨⟨_, _, rfl, rfl⟩, good (.inl ez)⟩
        · rintro σ H2 ⟨⟨y6, y7, rfl, rfl⟩, hb1, hb2⟩
          refine ⟨_, _, _, _, _, rfl, s'.trans sp, fun j g hj hg => ?_⟩
          by_cases e : j = i
          · rw [e, hf] at hg
            cases hg
            exact ⟨hb1 (by show 1 ≤ 2; decide), hb2 (by show 2 ≤ 2; decide)⟩
          · exact hb j g (by omega) hg
      · rintro σ H' ⟨y3, y4, y5, y6, y7, rfl, s', hb⟩
        refine q (fun f hf => ?_) H' (s1.trans s')
        obtain ⟨j, hj⟩ := List.getElem?_of_mem hf
        exact hb j f (by rw [hx.len]; exact (List.getElem?_eq_some_iff.mp hj).1) hj
end
end Fv


set_option Elab.async false
set_option linter.all false
set_option maxRecDepth 100000
set_option maxHeartbeats 4000000
namespace Fv
open PySem PySem.Spec PyProof.Rows L2
def FirstNo (bs : List Bool) (n : Nat) : Prop := bs[n]? = some false ∧ ∀ m : Nat, m < n → bs[m]? = some true
def spChkA (CE : Addr) : Sp := fun vs H Q E => ∃ (a : Addr) (bs : List Bool), vs = [.ref a] ∧ H a = some (.lst (bs.map V.bl)) ∧ (bs.all id = true → ∀ H', Same H H' → Q .non H') ∧
  ∀ n : Nat, FirstNo bs n → ∀ (H1 : Hp) (dx : Addr), Same H H1 → H1 dx = none → E (.ref CE) (some dx) (upd H1 dx (.xd [("place", .int n)]))
section
variable {P : Program} {w : World} {K : PySem.W.Frag} {mg : Str → Option Value} {base : Heap}
theorem scWrong : FnScope ["self", "place"] ["self", "place"] (defScope (inClass (top 3) 0)) := ⟨rfl, rfl, rfl, by decide +kernel, rfl, by decide +kernel, by decide +kernel⟩
theorem own_Wrong {f C : Addr} {fd : FuncData} (F : Fun K "__init__" "Wrong.__init__" (inClass (top 3) 0) f fd) (O : OexC K C) (no : PySem.W.findIn K (.ref C) "place" = some none) (gC : mg "Wrong" = some (.ref C)) (iC : PySem.W.findIn K (.ref C) "__init__" = some (some (.ref f))) (tI : PySem.W.typeIn K (.ref f) = some (.type "function")) : Own1 P w K mg base "Wrong" "place" C := by
  refine ⟨O, gC, f, fd, ["self", "place"], iC, tI, F.ok scWrong (fun vs H Q E h => ?_) (fun cdv A outer s H vs Q E hr h => ?_), F.binds fun _ _ _ _ _ _ us hl => match us, hl with | [_, _], _ => rfl⟩
  · obtain ⟨a, y, rfl, _⟩ := h
    rfl
  · obtain ⟨a, y, rfl, ha, q⟩ := h
    exact ⟨_, pss_one (ps_ost (pv 0) (pv 1)), _, rfl, _, rfl, a, C, rfl, O, no, .inl ⟨ha, q⟩⟩
theorem ok_chkA {f CE : Addr} {fd : FuncData} (F : Fun K "check_arguments" "check_arguments" sChk f fd) (O : Own1 P w K mg base "Wrong" "place" CE) (me : mg "enumerate" = none) : FnOk P w K mg base (L2.CX P w) 3 f fd ["rights"] (spChkA CE) := by
  refine F.okX scCk (fun vs H Q E h => ?_) (fun cdv A outer s H vs Q E hr h => ?_)
  · obtain ⟨a, bs, rfl, _⟩ := h
    rfl
  · obtain ⟨a, bs, rfl, ha, q, qE⟩ := h
    refine ⟨_, pss_one (ps_for (passes_of rfl) rfl (pi_enum (by rfl) me (pa_cons (pv 0) pa_nil)) (pg_tup (by rfl) (pgs_cons (pg_name (i := 1) scCk.nd rfl (.inl rfl)) (pgs_cons (pg_name (i := 2) scCk.nd rfl (.inl rfl)) pgs_nil)))
      (pss_one (ps_if (pt_not (pt_val (pv 2))) (pss_one (ps_raise (W := fun cls d _ H => E cls d H) rfl (takes_of rfl rfl rfl rfl) (pmk1 O hr (by rfl) (pa_cons (pv 1) pa_nil)))) pss_nil))), ?_⟩
    refine ⟨_, rfl, a, _, rfl, SqL.of ha, ?_⟩
    refine for_it (walk_enum (K := K) (a := a) (xs := bs.map V.bl)) (fun i σ H' => ∃ y1 y2 : Option V, σ = [some (.ref a), y1, y2] ∧ Same H H' ∧ ∀ m : Nat, m < i → bs[m]? = some true) ⟨none, none, rfl, fun _ _ e => e, fun m hm => absurd hm (Nat.not_lt_zero m)⟩ (fun i σ H' _ h => ?_) ?_ ?_
    · obtain ⟨_, _, _, s', _⟩ := h
      exact SqL.of (s' _ _ ha)
    · rintro i x σ H' H2 hi ⟨y1, y2, rfl, s', hb⟩ ⟨T, vi, vx, rfl, nT, rfl, ei, ex⟩
      cases ei
      obtain ⟨t, hti, rfl⟩ : ∃ t, bs[i]? = some t ∧ vx = V.bl t := by
        have ex : (bs.map V.bl)[i]? = some vx := ex
        rw [List.getElem?_map] at ex
        cases e : bs[i]? with
        | none => rw [e] at ex; cases ex
        | some t => rw [e] at ex; exact ⟨t, rfl, (Option.some.inj ex).symm⟩
      have sT := same_upd (o := .tup [.int (i : Nat), .bl t]) nT
      refine ⟨T, _, rfl, SqT.of upd_same, rfl, _, _, rfl, _, _, rfl, rfl, ?_⟩
      refine ⟨_, rfl, _, rfl, ?_⟩
      cases t with
      | true =>
        refine iteF ⟨_, _, rfl, s'.trans sT, fun m hm => ?_⟩
        by_cases z : m = i
        · rw [z]; exact hti
        · exact hb m (by omega)
      | false =>
        refine iteT ⟨_, rfl, fun dx nd => ?_⟩
        exact qE i ⟨hti, hb⟩ _ dx (s'.trans sT) nd
    · rintro σ H' ⟨y1, y2, rfl, s', hb⟩
      refine q ?_ H' s'
      rw [List.all_eq_true]
      intro t ht
      obtain ⟨m, hm, e⟩ := List.getElem_of_mem ht
      have := hb m (by rw [List.length_map]; exact hm)
      rw [List.getElem?_eq_getElem hm, e] at this
      exact Option.some.inj this
end
end Fv


set_option Elab.async false
set_option linter.all false
set_option maxRecDepth 100000
set_option maxHeartbeats 4000000
namespace Fv
open PySem PySem.Spec PyProof.Rows L2
/-! ### a long list of Nones -/
def NoneL (H : Hp) (v : V) : Prop := ∃ (a : Addr) (n : Nat), v = .ref a ∧ H a = some (.lst (List.replicate (n + 1) V.non)) ∧ n ≤ 9000
theorem NoneL.same {H H' : Hp} {v : V} (h : NoneL H v) (s : Same H H') : NoneL H' v := by
  obtain ⟨a, n, e, h, l⟩ := h
  exact ⟨a, n, e, s _ _ h, l⟩
def spNo (r : Bool) : Sp := fun vs H Q _ => ∃ (b : Addr) (v : V), vs = [v] ∧ NoneL H v ∧ (∃ o, H b = some o) ∧ ∀ H', Same H H' → Q (.bl r) H'
/-- what a value is found to be: by its data, or as a long list of Nones -/
def ArgN (C : Addr) (H : Hp) (b : Addr) (g : PyData → Bool) (v : V) (r : Bool) : Prop := (∃ d, Dx C H b v d ∧ okD d ∧ r = g d) ∨ (NoneL H v ∧ r = false)
theorem ArgN.same {C : Addr} {H H' : Hp} {b : Addr} {g : PyData → Bool} {v : V} {r : Bool} (h : ArgN C H b g v r) (s : Same H H') : ArgN C H' b g v r := by
  rcases h with ⟨d, h1, h2, h3⟩ | ⟨h1, h2⟩
  · exact .inl ⟨d, h1.mono fun c o _ e => s c o e, h2, h3⟩
  · exact .inr ⟨h1.same s, h2⟩
def spN (C : Addr) (g : PyData → Bool) : Sp := fun vs H Q _ => ∃ (b : Addr) (v : V) (r : Bool), vs = [v] ∧ ArgN C H b g v r ∧ (∃ o, H b = some o) ∧ ∀ H', Same H H' → Q (.bl r) H'
theorem take_rep {α : Type} {x y : α} {n i : Nat} (h : (List.replicate n x)[i]? = some y) : y = x := by
  have := List.mem_of_getElem? h
  exact List.eq_of_mem_replicate this
section
variable {P : Program} {w : World} {K : PySem.W.Frag} {mg : Str → Option Value} {base : Heap} {C : Addr}
theorem FnOk.orr {CX : CXT} {k : Nat} {f : Addr} {fd : FuncData} {ps : List Str} {sp1 sp2 sp : Sp} (F1 : FnOk P w K mg base CX k f fd ps sp1) (F2 : FnOk P w K mg base CX k f fd ps sp2) (h : ∀ vs H Q E, sp vs H Q E → sp1 vs H Q E ∨ sp2 vs H Q E) :
    FnOk P w K mg base CX k f fd ps sp :=
  ⟨fun vs H Q E z => (h vs H Q E z).elim (F1.len vs H Q E) (F2.len vs H Q E), fun A outer s H args us vs Q E hr e0 hb r z => (h vs H Q E z).elim (F1.run A outer s H args us vs Q E hr e0 hb r) (F2.run A outer s H args us vs Q E hr e0 hb r)⟩
theorem orN {k : Nat} {f : Addr} {fd : FuncData} {ps : List Str} {g : PyData → Bool} (F1 : FnOk P w K mg base CX0 k f fd ps (spX C g)) (F2 : FnOk P w K mg base CX0 k f fd ps (spNo false)) : FnOk P w K mg base CX0 k f fd ps (spN C g) :=
  FnOk.orr F1 F2 fun vs H Q E ⟨b, v, r, e, h, hb, q⟩ => by
    rcases h with ⟨d, h1, h2, h3⟩ | ⟨h1, h2⟩
    · exact .inl ⟨b, v, d, e, h1, h2, hb, by rw [← h3]; exact q⟩
    · exact .inr ⟨b, v, e, h1, hb, by rw [← h2]; exact q⟩
theorem no_isint {f : Addr} {fd : FuncData} (F : Fun K "is_integer" "is_integer" sIsInt f fd) (mq : mg "isinstance" = none) (mi : mg "int" = none) (mb : mg "bool" = none) : FnOk P w K mg base CX0 1 f fd ["thing"] (spNo false) := by
  refine F.ok sc1 (fun vs H Q E h => ?_) (fun cdv A outer s H vs Q E hr h => ?_)
  · obtain ⟨b, v, rfl, _⟩ := h
    rfl
  · obtain ⟨b, v, rfl, ⟨a, n, rfl, ea, hn⟩, hb, q⟩ := h
    refine ⟨_, pss_one (ps_ret (pe_and (pe_callB call_isi (by rfl) mq (by decide +kernel) (pa_cons (pv 0) (pa_cons (pe_bltn (v := .ty "int") (by rfl) mi boot_int rfl) pa_nil)))
      (pe_one (pe_not (pe_callB call_isi (by rfl) mq (by decide +kernel) (pa_cons (pv 0) (pa_cons (pe_bltn (v := .ty "bool") (by rfl) mb boot_bool rfl) pa_nil))))))), ?_⟩
    exact ⟨_, rfl, _, _, _, _, _, rfl, .ty "int", .base (.lst ea), kit_int (.list []), _, rfl, q H fun _ _ e => e⟩
theorem no_isrow {f : Addr} {fd : FuncData} (F : Fun K "is_row" "is_row" sIsRow f fd) (mq : mg "isinstance" = none) (ml : mg "list" = none) (mt : mg "tuple" = none) : FnOk P w K mg base CX0 1 f fd ["thing"] (spNo true) := by
  refine F.ok sc5 (fun vs H Q E h => ?_) (fun cdv A outer s H vs Q E hr h => ?_)
  · obtain ⟨b, v, rfl, _⟩ := h
    rfl
  · obtain ⟨b, v, rfl, ⟨a, n, rfl, ea, hn⟩, hb, q⟩ := h
    refine ⟨_, pss_one (ps_ret (pe_callB call_isiT (by rfl) mq (by decide +kernel) (pa_cons (pv 0) (pa_cons (pe_tup (pa_cons (pe_bltn (v := .ty "list") (by rfl) ml boot_list rfl) (pa_cons (pe_bltn (v := .ty "tuple") (by rfl) mt boot_tuple rfl) pa_nil))) pa_nil)))), ?_⟩
    refine ⟨_, rfl, by show 2 ≤ sizeLine; decide, fun p np => ?_⟩
    have ea' := same_upd (o := .tup [.ty "list", .ty "tuple"]) np _ _ ea
    exact ⟨_, _, _, _, _, _, rfl, upd_same, .cons (.ty "list") (.cons (.ty "tuple") .nil), .base (.lst ea'), kitAny_cons (r := true) (kit_list (.list [])) (fun e => by cases e) (fun _ => rfl), q _ (same_upd np)⟩
theorem no_arenames {f fR fN : Addr} {fd fdR fdN : FuncData} (F : Fun K "are_names" "are_names" sAreNames f fd)
    (GR : FnOk P w K mg base CX0 1 fR fdR ["thing"] (spNo true)) (bR : Binds K fdR ["thing"] []) (mR : mg "is_row" = some (.ref fR)) (kR : PySem.W.keepIn K (.ref fR) = true)
    (GN : FnOk P w K mg base CX0 1 fN fdN ["thing"] (spX C nameD)) (bN : Binds K fdN ["thing"] []) (mN : mg "is_name" = some (.ref fN)) (kN : PySem.W.keepIn K (.ref fN) = true)
    (ma : mg "all" = none) (ml : mg "len" = none) : FnOk P w K mg base CX0 2 f fd ["thing"] (spNo false) := by
  refine F.ok scAn (fun vs H Q E h => ?_) (fun cdv A outer s H vs Q E hr h => ?_)
  · obtain ⟨b, v, rfl, _⟩ := h
    rfl
  · obtain ⟨b, v, rfl, hv, hb, q⟩ := h
    refine ⟨_, pss_cons (ps_if (PW.pt (pw_or (pt_not (pt_val (pe_call GR hr (by rfl) mR kR bR .nil pass0 (pa_cons (pv 0) pa_nil)))) (pw_or1 (pt_not (pt_val (pe_callB (cr_all rfl) (by rfl) ma (by decide +kernel) (pa_cons
        (pe_lc (own := [("item", 1)]) (g := gName 1) (tt := tYes) rfl scAn.nd (pi_list (pv 0)) (blkOk_by (N := ["thing", "item"]) (sc := defScope sAreNames) (by decide +kernel))
        (fun _ _ _ _ _ => pg_name (i := 1) scAn.nd rfl (Or.inl rfl)) (fun _ _ _ _ _ => pts_nil) (fun _ _ _ _ _ => pe_call GN hr (by rfl) mN kN bN .nil pass0 (pa_cons (pv 1) pa_nil))) pa_nil)))))))
        (pss_one (ps_ret pe_bl)) pss_nil)
      (pss_one (ps_ret (pe_cmpR op_eq (pe_callB (r := rLenX P w) call_lenX (by rfl) ml PySem.boot_len (pa_cons
        (pe_scX (own := [("item", 1)]) (g := gName 1) (tt := tYes) rfl scAn.nd (pi_row (pv 0)) (blkOk_by (N := ["thing", "item"]) (sc := defScope sAreNames) (by decide +kernel))
        (fun _ _ _ _ _ => pg_name (i := 1) scAn.nd rfl (Or.inl rfl)) (fun _ _ _ _ _ => pts_nil) (fun _ _ _ _ _ => pv 1)) pa_nil)) (pe_callB call_len_seq (by rfl) ml PySem.boot_len (pa_cons (pv 0) pa_nil)) (nomark _)))), ?_⟩
    refine ⟨_, rfl, b, v, rfl, hv, hb, fun H1 s1 => ⟨_, rfl, iteF ?_⟩⟩
    obtain ⟨a, n, rfl, ea, hn⟩ := hv.same s1
    refine ⟨_, rfl, a, rfl, ⟨_, SqL.of ea⟩, fun D hD => ?_⟩
    refine lc_list (K := K) (a := a) (xs := List.replicate (n + 1) V.non) (fun i H' => Same H1 H' ∧ H' D = some (.lst (List.replicate i (V.bl false)))) ⟨same_upd hD, upd_same⟩ (fun i H' _ h => SqL.of (h.1 _ _ ea)) ?_ ?_
    · rintro i x H' hxi ⟨s', e'⟩
      have hi : i < n + 1 := by
        have := (List.getElem?_eq_some_iff.mp hxi).1
        rwa [List.length_replicate] at this
      obtain rfl := take_rep hxi
      refine ⟨rfl, _, rfl, b, .non, .none, rfl, .non, True.intro, there (s1.trans s') hb, fun H3 s3 => ⟨_, s3 _ _ e', ?_, fun c o e => ?_, ?_⟩⟩
      · rw [List.length_replicate]
        have : 9001 < sizeLine := by decide
        omega
      · rw [upd_ne (ne_of_none e hD)]
        exact s3 _ _ (s' c o e)
      · rw [upd_same, List.replicate_succ']
        rfl
    · rintro H2 ⟨s2, e2⟩
      rw [List.length_replicate] at e2
      refine ⟨D, List.replicate (n + 1) false, rfl, SqL.of (by rw [List.map_replicate]; exact e2), _, rfl, ?_⟩
      rw [show (List.replicate (n + 1) false).all id = false from rfl]
      exact iteT (q H2 (s1.trans s2))
end
end Fv


set_option Elab.async false
set_option linter.all false
set_option maxRecDepth 100000
set_option maxHeartbeats 4000000
namespace Fv
open PySem PySem.Spec PyProof.Rows L2
/-! ### the law's facts, of a drawn start -/
abbrev sLFacts : Stmt := top 32
/-- the number of a name -/
def potL : List Str → List Int → Str → Int
  | z :: zs, s :: ss, u => if u = z then s else potL zs ss u
  | _, _, _ => 0
theorem potL_at : ∀ {zs : List Str} {ss : List Int} {i : Nat} {u : Str} {v : Int}, zs.Nodup → zs[i]? = some u → ss[i]? = some v → potL zs ss u = v
  | [], _, i, _, _, _, h, _ => by cases i <;> cases h
  | _ :: _, [], i, _, _, _, _, h => by cases i <;> cases h
  | z :: zs, s :: ss, 0, u, v, _, h, k => by
    cases h
    cases k
    show (if _ = _ then _ else _) = _
    rw [if_pos rfl]
  | z :: zs, s :: ss, i + 1, u, v, nd, h, k => by
    have nd' := List.nodup_cons.mp nd
    have hm : u ∈ zs := List.mem_of_getElem? (by simpa using h)
    have ne : u ≠ z := fun e => nd'.1 (by rw [← e]; exact hm)
    show (if _ = _ then _ else _) = _
    rw [if_neg ne]
    exact potL_at nd'.2 (by simpa using h) (by simpa using k)
theorem empty_out {zs : List Str} (hz : ∀ z ∈ zs, NmOk z) : ("" : Str) ∉ zs := fun h => by
  have := (hz _ h).1
  have e : ("" : Str).length = 0 := rfl
  omega
/-- nothing, then the names -/
abbrev srcs (zs : List Str) : List Str := ("" : Str) :: zs
theorem src_nodup {zs : List Str} (hz : ∀ z ∈ zs, NmOk z) (nd : zs.Nodup) : (srcs zs).Nodup := List.nodup_cons.mpr ⟨empty_out hz, nd⟩
theorem src_mem {zs : List Str} {u : Str} : u ∈ srcs zs ↔ SrcIn zs u := by
  unfold SrcIn
  rw [List.mem_cons]
/-- numbers that are not too great -/
def FaB (f : FaT) : Prop := -(3 * 10 ^ 39) ≤ f.2.2 ∧ f.2.2 ≤ 3 * 10 ^ 39
def spLFacts : Sp := fun vs H Q _ => ∃ (b n : Addr) (zs : List Str), vs = [.ref b, .ref n] ∧ Bag H b ∧ H n = some (.lst (zs.map V.str)) ∧ n ≠ b ∧ zs.length ≤ 6 ∧ (∀ z ∈ zs, NmOk z) ∧ zs.Nodup ∧
  ∀ (p : Addr) (xs : List V) (L : List FaT) (pot : Str → Int) (H' : Hp), H p = none → H' p = some (.lst xs) → Its H' xs L → L.length ≤ 3 → (∀ f ∈ L, SrcIn zs f.1 ∧ SrcIn zs f.2.1) → (∀ f ∈ L, FaB f) → M.Keeps L pot → p ≠ b → Bag H' b → Keep b H H' → (∀ c, BagAt H b c → BagAt H' b c) → Q (.ref p) H'
section
variable {P : Program} {w : World} {K : PySem.W.Frag} {mg : Str → Option Value} {base : Heap} {C : Addr}
abbrev nLf : List Str := ["_law_bag_here", "_law_names_here", "_law_sources", "_law_found", "_law_start", "_law_k", "_law_x", "_law_y", "_law_name"]
theorem scLf : FnScope nLf ["_law_bag_here", "_law_names_here"] (defScope sLFacts) := ⟨rfl, rfl, rfl, by decide +kernel, rfl, by decide +kernel, by decide +kernel⟩
theorem ok_lfacts {f fT fN : Addr} {fd fdT fdN : FuncData} (F : Fun K "_law_facts" "_law_facts" sLFacts f fd)
    (GT : FnOk P w K mg base CX0 1 fT fdT ["_law_bag_here", "_law_many"] spTake) (bT : Binds K fdT ["_law_bag_here", "_law_many"] []) (mT : mg "_law_take" = some (.ref fT)) (kT : PySem.W.keepIn K (.ref fT) = true)
    (GN : FnOk P w K mg base CX0 2 fN fdN ["_law_bag_here"] spNumber) (bN : Binds K fdN ["_law_bag_here"] []) (mN : mg "_law_number" = some (.ref fN)) (kN : PySem.W.keepIn K (.ref fN) = true)
    (mr : mg "range" = none) (ml : mg "len" = none) (mL : mg "list" = none) : FnOk P w K mg base CX0 3 f fd ["_law_bag_here", "_law_names_here"] spLFacts := by
  refine F.ok scLf (fun vs H Q E h => ?_) (fun cdv A outer s H vs Q E hr h => ?_)
  · obtain ⟨_, _, _, rfl, _⟩ := h
    rfl
  · obtain ⟨b, n, zs, rfl, B, hn, nb, zl, hz, nd, q⟩ := h
    have hr1 : Room 1 _ := hr.mono (by decide)
    refine ⟨_, pss_cons (ps_par (i := 2) (j := 3) (by rfl) scLf.nd rfl rfl (by decide) rfl rfl (pa_cons (pe_op op_cat (pe_lst (pa_cons pe_str pa_nil)) (pe_callTy call_list_of (by rfl) mL boot_list (pa_cons (pv 1) pa_nil))) (pa_cons (pe_lst pa_nil) pa_nil)) (by rfl))
      (pss_cons (ps_set (i := 4) scLf.nd rfl (.inl rfl) (pe_op op_cat (pe_lst (pa_cons pe_int pa_nil))
        (pe_lc (own := [("_law_name", 8)]) (g := gName 8) (tt := tYes) rfl scLf.nd (pi_list (pv 1)) (blkOk_by (N := nLf) (sc := defScope sLFacts) (by decide +kernel))
          (fun _ _ _ _ _ => pg_name (i := 8) scLf.nd rfl (.inl rfl)) (fun _ _ _ _ _ => pts_nil) (fun _ _ _ _ _ => pe_call GN (by exact hr) (by rfl) mN kN bN .nil pass0 (pa_cons (pv 0) pa_nil)))))
      (pss_cons (ps_for PassesOwn.never rfl (pi_range1 (by rfl) mr (pa_cons (pe_call GT hr1 (by rfl) mT kT bT .nil pass0 (pa_cons (pv 0) (pa_cons pe_int pa_nil))) pa_nil)) (pg_name (i := 5) scLf.nd rfl (.inl rfl))
        (pss_cons (ps_par (i := 6) (j := 7) (by rfl) scLf.nd rfl rfl (by decide) rfl rfl (pa_cons (pe_call GT hr1 (by rfl) mT kT bT .nil pass0 (pa_cons (pv 0) (pa_cons (pe_callB call_len_seq (by rfl) ml PySem.boot_len (pa_cons (pv 2) pa_nil)) pa_nil))) (pa_cons (pe_call GT hr1 (by rfl) mT kT bT .nil pass0 (pa_cons (pv 0) (pa_cons (pe_callB call_len_seq (by rfl) ml PySem.boot_len (pa_cons (pv 2) pa_nil)) pa_nil))) pa_nil)) (by rfl))
        (pss_one (ps_expr (pe_bm PySem.F.plainAttrs_list PySem.F.slot_list_append PySem.F.type_list_append mt_append (pv 3) (pa_cons (pe_tup
          (pa_cons (pe_ix ix_list (pv 2) (pv 6) (fun _ _ => rfl)) (pa_cons (pe_ix ix_list (pv 2) (pv 7) (fun _ _ => rfl))
          (pa_cons (pe_op op_add (pe_op op_sub (pe_ix ix_list (pv 4) (pv 6) (fun _ _ => rfl)) (pe_ix ix_list (pv 4) (pv 7) (fun _ _ => rfl))) (pe_call GT hr1 (by rfl) mT kT bT .nil pass0 (pa_cons (pv 0) (pa_cons pe_int pa_nil)))) pa_nil)))) pa_nil))))))
      (pss_one (ps_ret (pv 3))))), ?_⟩
    obtain ⟨c0, B0⟩ := B
    rw [show L2.start nLf [V.ref b, V.ref n] = [some (.ref b), some (.ref n), none, none, none, none, none, none, none] from rfl]
    refine ⟨by show 1 ≤ sizeLine; decide, fun l1 n1 => ?_⟩
    obtain ⟨B1, l1b, l1c⟩ := BagAt.new (o := .lst [.str ("" : Str)]) B0 n1
    have s1 := same_upd (o := .lst [.str ("" : Str)]) n1
    refine ⟨_, rfl, n, _, rfl, .inl (SqL.of (s1 _ _ hn)), fun l2 n2 => ?_⟩
    obtain ⟨B2, l2b, l2c⟩ := BagAt.new (o := .lst (zs.map V.str)) B1 n2
    have s2 := s1.trans (same_upd (o := .lst (zs.map V.str)) n2)
    have e1 : (upd (upd H l1 (.lst [.str ("" : Str)])) l2 (.lst (zs.map V.str))) l1 = some (.lst [.str ("" : Str)]) := by rw [upd_ne (ne_of_none upd_same n2)]; exact upd_same
    refine ⟨l1, l2, _, _, rfl, rfl, e1, upd_same, ?_, fun l3 n3 => ?_⟩
    · rw [List.length_map]
      exact small_line (by rw [show ([V.str ("" : Str)]).length = 1 from rfl]; omega)
    obtain ⟨B3, l3b, l3c⟩ := BagAt.new (o := .lst ([.str ("" : Str)] ++ zs.map V.str)) B2 n3
    have s3 := s2.trans (same_upd (o := .lst ([.str ("" : Str)] ++ zs.map V.str)) n3)
    have e3 : (upd (upd (upd H l1 (.lst [.str ("" : Str)])) l2 (.lst (zs.map V.str))) l3 (.lst ([.str ("" : Str)] ++ zs.map V.str))) l3 = some (.lst ((srcs zs).map V.str)) := upd_same
    generalize upd (upd (upd H l1 (.lst [.str ("" : Str)])) l2 (.lst (zs.map V.str))) l3 (.lst ([.str ("" : Str)] ++ zs.map V.str)) = H3 at B3 s3 e3 ⊢
    refine ⟨Nat.zero_le _, fun p np => ?_⟩
    obtain ⟨B4, pb, pc⟩ := BagAt.new (o := .lst []) B3 np
    have s4 := s3.trans (same_upd (o := .lst []) np)
    have ep : (upd H3 p (.lst [])) p = some (.lst []) := upd_same
    have e4 : (upd H3 p (.lst [])) l3 = some (.lst ((srcs zs).map V.str)) := by rw [upd_ne (ne_of_none e3 np)]; exact e3
    have pH : H p = none := by
      cases e : H p with
      | none => rfl
      | some o => rw [s3 _ _ e] at np; cases np
    generalize upd H3 p (.lst []) = H4 at B4 s4 ep e4 ⊢
    have l3p : l3 ≠ p := fun z => by rw [z, np] at e3; cases e3
    refine ⟨_, _, rfl, ?_⟩
    simp only [List.set_cons_zero, List.set_cons_succ]
    refine ⟨by show 1 ≤ sizeLine; decide, fun l5 n5 => ?_⟩
    obtain ⟨B5, l5b, l5c⟩ := BagAt.new (o := .lst [.int 0]) B4 n5
    have s5 := s4.trans (same_upd (o := .lst [.int 0]) n5)
    have e5 : (upd H4 l5 (.lst [.int 0])) l5 = some (.lst [.int 0]) := upd_same
    have ep5 : (upd H4 l5 (.lst [.int 0])) p = some (.lst []) := by rw [upd_ne (ne_of_none ep n5)]; exact ep
    have e35 : (upd H4 l5 (.lst [.int 0])) l3 = some (.lst ((srcs zs).map V.str)) := by rw [upd_ne (ne_of_none e4 n5)]; exact e4
    generalize upd H4 l5 (.lst [.int 0]) = H5 at B5 s5 e5 ep5 e35 ⊢
    refine ⟨_, rfl, n, rfl, ⟨_, SqL.of (s5 _ _ hn)⟩, fun D nD => ?_⟩
    obtain ⟨B6, Db, Dc⟩ := BagAt.new (o := .lst []) B5 nD
    refine lc_it (walk_list (K := K) (a := n) (xs := zs.map V.str)) (fun i H' => Keep b H5 H' ∧ BagAt H' b c0 ∧ ∃ ss : List Int, H' D = some (.lst (ss.map V.int)) ∧ ss.length = i ∧ ∀ k ∈ ss, -(10 ^ 39) ≤ k ∧ k ≤ 10 ^ 39)
      ⟨Keep.new nD, B6, [], upd_same, rfl, fun k hk => by cases hk⟩ (fun i H' _ h => SqL.of (h.1 _ _ nb (s5 _ _ hn))) ?_ ?_
    · rintro i y H' H2 hi ⟨k', B', ss, eD, hs, hb⟩ ⟨rfl, hyi⟩
      rw [List.length_map] at hi
      refine ⟨wp1 wp0, _, rfl, b, rfl, B'.bag, fun z H6 z1 z2 B7 k7 g7 => ?_⟩
      refine ⟨ss.map V.int, k7 _ _ Db eD, small60 (by rw [List.length_map]; omega), fun c o nc e => ?_, (g7 _ B').put Db Dc, ss ++ [z], ?_, by rw [List.length_append, hs]; rfl, fun k hk => ?_⟩
      · rw [upd_ne (ne_of_none e nD)]
        exact k7 _ _ nc (k' c o nc e)
      · rw [upd_same, List.map_append]
        rfl
      · rcases List.mem_append.mp hk with h | h
        · exact hb k h
        · rw [List.mem_singleton.mp h]
          exact ⟨z1, z2⟩
    rintro H6 ⟨k6, B7, ss, eD, hs, hb⟩
    rw [List.length_map] at hs
    refine ⟨l5, D, _, _, rfl, rfl, k6 _ _ l5b e5, eD, ?_, fun l7 n7 => ?_⟩
    · rw [List.length_map]
      exact small_line (by rw [show ([V.int 0]).length = 1 from rfl]; omega)
    obtain ⟨B8, l7b, l7c⟩ := BagAt.new (o := .lst ([.int 0] ++ ss.map V.int)) B7 n7
    have k8 : Keep b H (upd H6 l7 (.lst ([.int 0] ++ ss.map V.int))) := fun c o nc e => Keep.new n7 c o nc (k6 c o nc (s5 c o e))
    have e7 : (upd H6 l7 (.lst ([.int 0] ++ ss.map V.int))) l7 = some (.lst (((0 :: ss : List Int)).map V.int)) := upd_same
    have ep8 := Keep.new (b := b) (o := .lst ([.int 0] ++ ss.map V.int)) n7 _ _ pb (k6 _ _ pb ep5)
    have e38 := Keep.new (b := b) (o := .lst ([.int 0] ++ ss.map V.int)) n7 _ _ l3b (k6 _ _ l3b e35)
    have l7p : l7 ≠ p := fun z => by rw [z, k6 _ _ pb ep5] at n7; cases n7
    generalize upd H6 l7 (.lst ([.int 0] ++ ss.map V.int)) = H8 at B8 k8 e7 ep8 e38 ⊢
    simp only [gName, wipe, List.map_cons, List.map_nil, List.set_cons_zero, List.set_cons_succ]
    refine ⟨_, rfl, b, _, rfl, B8.bag, by decide, by decide, fun m H9 hm B9 k9 g9 => ?_⟩
    have sn : (srcs zs).Nodup := src_nodup hz nd
    have sl : (srcs zs).length = zs.length + 1 := rfl
    have ssl : (0 :: ss : List Int).length = zs.length + 1 := by rw [List.length_cons, hs]
    refine ⟨m, rfl, by omega, by omega, ?_⟩
    refine for_range (n := m) (fun i σ H' => ∃ (y5 y6 y7 y8 : Option V) (xs : List V) (L : List FaT), σ = [some (.ref b), some (.ref n), some (.ref l3), some (.ref p), some (.ref l7), y5, y6, y7, y8] ∧ BagAt H' b c0 ∧ Keep b H H' ∧ H' l3 = some (.lst ((srcs zs).map V.str)) ∧ H' l7 = some (.lst ((0 :: ss : List Int).map V.int)) ∧
        H' p = some (.lst xs) ∧ Its H' xs L ∧ L.length = i ∧ (∀ f ∈ L, SrcIn zs f.1 ∧ SrcIn zs f.2.1) ∧ (∀ f ∈ L, FaB f) ∧ M.Keeps L (potL (srcs zs) (0 :: ss)))
      ⟨none, none, none, none, [], [], rfl, g9 _ B8, k8.trans k9, k9 _ _ l3b e38, k9 _ _ l7b e7, k9 _ _ pb ep8, Its.nil, rfl, fun f hf => absurd hf List.not_mem_nil, fun f hf => absurd hf List.not_mem_nil, fun x y c h => absurd h List.not_mem_nil⟩ ?_ ?_
    · rintro i σ H' hi ⟨y5, y6, y7, y8, xs, L, rfl, B', k', e3', e7', ep', hI, hL, hin, hfb, hk⟩
      have sl2 : ((srcs zs).map V.str).length = zs.length + 1 := by rw [List.length_map, sl]
      refine ⟨_, rfl, _, rfl, l3, _, rfl, .inl (SqL.of e3'), b, _, rfl, B'.bag, by omega, by omega, fun ix H1 h1 B1 k1 g1 => ?_⟩
      refine ⟨_, rfl, _, rfl, l3, _, rfl, .inl (SqL.of (k1 _ _ l3b e3')), b, _, rfl, B1, by omega, by omega, fun iy H2 h2 B2 k2 g2 => ⟨_, _, rfl, ?_⟩⟩
      simp only [gName, List.set_cons_zero, List.set_cons_succ]
      rw [sl2] at h1 h2
      have lx : ix < (srcs zs).length := by omega
      have ly : iy < (srcs zs).length := by omega
      have lx2 : ix < (0 :: ss : List Int).length := by omega
      have ly2 : iy < (0 :: ss : List Int).length := by omega
      obtain ⟨ux, eux⟩ : ∃ u, (srcs zs)[ix]? = some u := ⟨_, List.getElem?_eq_getElem lx⟩
      obtain ⟨uy, euy⟩ : ∃ u, (srcs zs)[iy]? = some u := ⟨_, List.getElem?_eq_getElem ly⟩
      obtain ⟨vx, evx⟩ : ∃ v, (0 :: ss : List Int)[ix]? = some v := ⟨_, List.getElem?_eq_getElem lx2⟩
      obtain ⟨vy, evy⟩ : ∃ v, (0 :: ss : List Int)[iy]? = some v := ⟨_, List.getElem?_eq_getElem ly2⟩
      have kk := k1.trans k2
      have e3b := kk _ _ l3b e3'
      have e7b := kk _ _ l7b e7'
      have epb := kk _ _ pb ep'
      have bd : ∀ v, v ∈ (0 :: ss : List Int) → -(10 ^ 39) ≤ v ∧ v ≤ 10 ^ 39 := fun v hv => by
        rcases List.mem_cons.mp hv with rfl | hv
        · exact ⟨by decide, by decide⟩
        · exact hb v hv
      have bx := bd _ (List.mem_of_getElem? evx)
      have by' := bd _ (List.mem_of_getElem? evy)
      refine ⟨_, rfl, .inl ⟨rfl, _, SqL.of epb⟩, ?_⟩
      refine ⟨_, rfl, _, rfl, l3, _, _, .str ux, rfl, rfl, SqL.of e3b, atI_nat (by rw [List.getElem?_map, eux]; rfl), ?_⟩
      refine ⟨_, rfl, _, rfl, l3, _, _, .str uy, rfl, rfl, SqL.of e3b, atI_nat (by rw [List.getElem?_map, euy]; rfl), ?_⟩
      refine ⟨_, rfl, _, rfl, l7, _, _, .int vx, rfl, rfl, SqL.of e7b, atI_nat (by rw [List.getElem?_map, evx]; rfl), ?_⟩
      refine ⟨_, rfl, _, rfl, l7, _, _, .int vy, rfl, rfl, SqL.of e7b, atI_nat (by rw [List.getElem?_map, evy]; rfl), _, _, rfl, rfl, ?_⟩
      refine ⟨_, rfl, b, _, rfl, B2, by decide, by decide, fun d H4 h4 B4' k4 g4 => ⟨_, _, rfl, rfl, by show 3 ≤ sizeLine; decide, fun t nt => ?_⟩⟩
      have kk4 := kk.trans k4
      obtain ⟨B5', tb, tc⟩ := BagAt.new (o := .tup [.str ux, .str uy, .int (vx - vy + d)]) (g4 _ (g2 _ (g1 _ B'))) nt
      have sT := same_upd (o := .tup [.str ux, .str uy, .int (vx - vy + d)]) nt
      have xl : xs.length = i := by rw [hI.len, hL]
      refine ⟨p, xs, _, rfl, rfl, sT _ _ (k4 _ _ pb epb), small1000 (by omega), ?_⟩
      refine ⟨_, _, _, _, _, L ++ [(ux, uy, vx - vy + d)], rfl, B5'.put pb pc, fun c o nc e => ?_, ?_, ?_, upd_same, ?_, by rw [List.length_append, hL]; rfl, fun f hf => ?_, fun f hf => ?_, fun x y c h => ?_⟩
      · by_cases z : c = p
        · rw [z, pH] at e
          cases e
        · rw [upd_ne z]
          exact sT _ _ (kk4 c o nc (k' c o nc e))
      · rw [upd_ne l3p]
        exact sT _ _ (k4 _ _ l3b e3b)
      · rw [upd_ne l7p]
        exact sT _ _ (k4 _ _ l7b e7b)
      · refine Its.snoc (hI.samT fun t' ys e => ?_) (by rw [upd_ne (ne_of (sT _ _ (k4 _ _ pb epb)) upd_same (by intro z; cases z)).symm]; exact upd_same)
        have tp : t' ≠ p := ne_of e ep' (by intro z; cases z)
        have tb' : t' ≠ b := fun z => by
          obtain ⟨cs, pp, s2, ii, BB⟩ := B'
          rw [z, BB.at_] at e
          cases e
        rw [upd_ne tp]
        exact sT _ _ (kk4 _ _ tb' e)
      · rcases List.mem_append.mp hf with hf | hf
        · exact hin f hf
        · rw [List.mem_singleton.mp hf]
          exact ⟨src_mem.mp (List.mem_of_getElem? eux), src_mem.mp (List.mem_of_getElem? euy)⟩
      · rcases List.mem_append.mp hf with hf | hf
        · exact hfb f hf
        · rw [List.mem_singleton.mp hf]
          show -(3 * 10 ^ 39) ≤ vx - vy + (d : Int) ∧ vx - vy + (d : Int) ≤ 3 * 10 ^ 39
          omega
      · rcases List.mem_append.mp h with h | h
        · exact hk x y c h
        · obtain ⟨rfl, rfl, rfl⟩ : x = ux ∧ y = uy ∧ c = vx - vy + d := by simpa using h
          rw [potL_at sn eux evx, potL_at sn euy evy]
          omega
    · rintro σ H' ⟨y5, y6, y7, y8, xs, L, rfl, B', k', e3', e7', ep', hI, hL, hin, hfb, hk⟩
      exact ⟨_, rfl, q p xs L _ H' pH ep' hI (by omega) hin hfb hk pb B'.bag k' fun c hc => by rw [BagAt.uniq B0 hc]; exact B'⟩
end
end Fv


set_option Elab.async false
set_option linter.all false
set_option maxRecDepth 100000
set_option maxHeartbeats 4000000
namespace Fv
open PySem PySem.Spec PyProof.Rows L2
/-! ### the law's least sums -/
abbrev sLClosed : Stmt := top 33
def InV (V : List Str) (T : M.Tb Str) : Prop := ∀ x y c, T x y = some c → x ∈ V ∧ y ∈ V
theorem InV.put {V : List Str} {T : M.Tb Str} (h : InV V T) {x y : Str} (hx : x ∈ V) (hy : y ∈ V) (c : Int) : InV V (M.put T x y c) := fun u v d e => by
  unfold M.put at e
  split at e
  · rename_i z
    rw [z.1, z.2]
    exact ⟨hx, hy⟩
  · exact h _ _ _ e
/-- the first i of the points with themselves -/
def diagN (V : List Str) (i : Nat) : M.Tb Str := fun x y => if x = y ∧ x ∈ V.take i then some 0 else none
theorem diagN_zero {V : List Str} : diagN V 0 = fun _ _ => none := by
  funext x y
  unfold diagN
  rw [if_neg (by simp)]
theorem diagN_all {V : List Str} : diagN V V.length = M.diag V := by
  funext x y
  unfold diagN M.diag
  rw [List.take_length]
theorem diagN_succ {V : List Str} {i : Nat} {u : Str} (e : V[i]? = some u) : diagN V (i + 1) = M.put (diagN V i) u u 0 := by
  funext x y
  unfold diagN M.put
  have et : V.take (i + 1) = V.take i ++ [u] := by rw [List.take_succ, e]; rfl
  rw [et]
  by_cases h : x = u ∧ y = u
  · rw [if_pos h, if_pos ⟨h.1.trans h.2.symm, by rw [h.1]; simp⟩]
  · rw [if_neg h]
    show _ = if x = y ∧ x ∈ V.take i then some 0 else none
    by_cases h2 : x = y ∧ x ∈ V.take i
    · rw [if_pos h2, if_pos ⟨h2.1, List.mem_append_left _ h2.2⟩]
    · rw [if_neg h2, if_neg]
      rintro ⟨h3, h4⟩
      rcases List.mem_append.mp h4 with h4 | h4
      · exact h2 ⟨h3, h4⟩
      · have := List.mem_singleton.mp h4
        exact h ⟨this, h3 ▸ this⟩
theorem diagN_in {V : List Str} {i : Nat} : InV V (diagN V i) := fun x y c e => by
  unfold diagN at e
  split at e
  · rename_i h
    exact ⟨List.mem_of_mem_take h.2, h.1 ▸ List.mem_of_mem_take h.2⟩
  · cases e
theorem foldl_take {α β : Type} (f : β → α → β) (L : List α) (b : β) {i : Nat} {a : α} (e : L[i]? = some a) : (L.take (i + 1)).foldl f b = f ((L.take i).foldl f b) a := by
  rw [List.take_succ, e, List.foldl_append]
  rfl
def spLClosed : Sp := fun vs H Q _ => ∃ (n a : Addr) (zs : List Str) (xs : List V) (L : List FaT), vs = [.ref n, .ref a] ∧ H n = some (.lst (zs.map V.str)) ∧ H a = some (.lst xs) ∧ Its H xs L ∧ zs.length ≤ 6 ∧ (∀ f ∈ L, SrcIn zs f.1 ∧ SrcIn zs f.2.1) ∧
  ∀ (q : Addr) (kvs : List (List Key × V)) (H' : Hp), H q = none → Same H H' → H' q = some (.dT kvs) → TbL kvs (M.rounds (srcs zs) L (zs.length + 2) (M.diag (srcs zs))) → Q (.ref q) H'
section
variable {P : Program} {w : World} {K : PySem.W.Frag} {mg : Str → Option Value} {base : Heap} {C : Addr}
abbrev nLc : List Str := ["_law_names_here", "_law_facts_here", "_law_bound", "_law_one", "_law_turn", "_law_x", "_law_y", "_law_c", "_law_passed"]
theorem scLc : FnScope nLc ["_law_names_here", "_law_facts_here"] (defScope sLClosed) := ⟨rfl, rfl, rfl, by decide +kernel, rfl, by decide +kernel, by decide +kernel⟩
theorem ok_lclosed {f : Addr} {fd : FuncData} (F : Fun K "_law_closed" "_law_closed" sLClosed f fd) (mr : mg "range" = none) (ml : mg "len" = none) (mL : mg "list" = none) : FnOk P w K mg base CX0 1 f fd ["_law_names_here", "_law_facts_here"] spLClosed := by
  refine F.ok scLc (fun vs H Q E h => ?_) (fun cdv A outer s H vs Q E hr h => ?_)
  · obtain ⟨_, _, _, _, _, rfl, _⟩ := h
    rfl
  · obtain ⟨n, a, zs, xs, L, rfl, hn, ha, hI, zl, hin, q⟩ := h
    have hu := hu_of hr
    refine ⟨_, pss_cons (ps_set (i := 2) scLc.nd rfl (.inl rfl) pe_dnewT)
      (pss_cons (ps_for PassesOwn.never rfl (pi_list (pe_op op_cat (pe_lst (pa_cons pe_str pa_nil)) (pe_callTy call_list_of (by rfl) mL boot_list (pa_cons (pv 0) pa_nil)))) (pg_name (i := 3) scLc.nd rfl (.inl rfl))
        (pss_one (ps_dput hu (pv 2) (pe_tup (pa_cons (pv 3) (pa_cons (pv 3) pa_nil))) pe_int rfl)))
      (pss_cons (ps_for PassesOwn.never rfl (pi_range1 (by rfl) mr (pa_cons (pe_op op_add (pe_callB call_len_seq (by rfl) ml PySem.boot_len (pa_cons (pv 0) pa_nil)) pe_int) pa_nil)) (pg_name (i := 4) scLc.nd rfl (.inl rfl))
        (pss_one (ps_for PassesOwn.never rfl (pi_list (pv 1)) (pg_tup (by rfl) (pgs_cons (pg_name (i := 5) scLc.nd rfl (.inl rfl)) (pgs_cons (pg_name (i := 6) scLc.nd rfl (.inl rfl)) (pgs_cons (pg_name (i := 7) scLc.nd rfl (.inl rfl)) pgs_nil))))
          (pss_one (ps_for PassesOwn.never rfl (pi_list (pe_op op_cat (pe_lst (pa_cons pe_str pa_nil)) (pe_callTy call_list_of (by rfl) mL boot_list (pa_cons (pv 0) pa_nil)))) (pg_name (i := 3) scLc.nd rfl (.inl rfl))
            (pss_cons (ps_set (i := 8) scLc.nd rfl (.inl rfl) (pe_ifExp (pt_cmp (pc_din hu (pe_tup (pa_cons (pv 6) (pa_cons (pv 3) pa_nil))) (pv 2))) (pe_op op_add (pe_dget hu (pv 2) (pe_tup (pa_cons (pv 6) (pa_cons (pv 3) pa_nil))) (fun _ _ => rfl)) (pv 7)) pe_non))
            (pss_one (ps_if (PW.pt (pw_and (pt_cmpR op_notN (pv 8) pe_non (nomark _)) (pw_and1 (PW.pt (pw_or (pt_cmp (pc_dnotin hu (pe_tup (pa_cons (pv 5) (pa_cons (pv 3) pa_nil))) (pv 2))) (pw_or1 (pt_cmpR op_gt (pe_dget hu (pv 2) (pe_tup (pa_cons (pv 5) (pa_cons (pv 3) pa_nil))) (fun _ _ => rfl)) (pv 8) (nomark _))))))))
              (pss_one (ps_dput hu (pv 2) (pe_tup (pa_cons (pv 5) (pa_cons (pv 3) pa_nil))) (pv 8) rfl)) pss_nil))))))))
      (pss_one (ps_ret (pv 2))))), ?_⟩
    rw [show L2.start nLc [V.ref n, V.ref a] = [some (.ref n), some (.ref a), none, none, none, none, none, none, none] from rfl]
    intro q0 nq
    have s0 := same_upd (o := .dT []) nq
    have eq0 : (upd H q0 (.dT [])) q0 = some (.dT []) := upd_same
    generalize upd H q0 (.dT []) = H0 at s0 eq0 ⊢
    simp only [gName, List.set_cons_zero, List.set_cons_succ]
    have few : ∀ {kvs : List (List Key × V)} {T : M.Tb Str}, TbL kvs T → InV (srcs zs) T → kvs.length ≤ 49 := fun hT hV => by
      have h1 := hT.few (srcs zs) hV
      have h2 : (srcs zs).length ≤ 7 := by rw [List.length_cons]; omega
      have h3 := Nat.mul_le_mul h2 h2
      omega
    -- nothing, and the names: a new list
    refine ⟨by show 1 ≤ sizeLine; decide, fun l1 n1 => ?_⟩
    have s1 := same_upd (o := .lst [.str ("" : Str)]) n1
    refine ⟨_, rfl, n, _, rfl, .inl (SqL.of (s1 _ _ (s0 _ _ hn))), fun l2 n2 => ?_⟩
    have s2 := s1.trans (same_upd (o := .lst (zs.map V.str)) n2)
    have e1 : (upd (upd H0 l1 (.lst [.str ("" : Str)])) l2 (.lst (zs.map V.str))) l1 = some (.lst [.str ("" : Str)]) := by rw [upd_ne (ne_of_none upd_same n2)]; exact upd_same
    refine ⟨l1, l2, _, _, rfl, rfl, e1, upd_same, ?_, fun l3 n3 => ?_⟩
    · rw [List.length_map]
      exact small_line (by rw [show ([V.str ("" : Str)]).length = 1 from rfl]; omega)
    have s3 := s2.trans (same_upd (o := .lst ([.str ("" : Str)] ++ zs.map V.str)) n3)
    have e3 : (upd (upd (upd H0 l1 (.lst [.str ("" : Str)])) l2 (.lst (zs.map V.str))) l3 (.lst ([.str ("" : Str)] ++ zs.map V.str))) l3 = some (.lst ((srcs zs).map V.str)) := upd_same
    generalize upd (upd (upd H0 l1 (.lst [.str ("" : Str)])) l2 (.lst (zs.map V.str))) l3 (.lst ([.str ("" : Str)] ++ zs.map V.str)) = H3 at s3 e3 ⊢
    have eq3 := s3 _ _ eq0
    have s03 := s0.trans s3
    have l3q : l3 ≠ q0 := ne_of e3 eq3 (by intro z; cases z)
    refine ⟨l3, rfl, ⟨_, SqL.of e3⟩, ?_⟩
    refine for_list (K := K) (a := l3) (xs := (srcs zs).map V.str) (fun i σ H' => ∃ (y3 : Option V) (kvs : List (List Key × V)), σ = [some (.ref n), some (.ref a), some (.ref q0), y3, none, none, none, none, none] ∧ Same H H' ∧ H' l3 = some (.lst ((srcs zs).map V.str)) ∧ H' q0 = some (.dT kvs) ∧ TbL kvs (diagN (srcs zs) i))
      ⟨none, [], rfl, s03, e3, eq3, by rw [diagN_zero]; exact .nil⟩ (fun i σ H' _ h => by
        obtain ⟨_, _, _, _, e, _⟩ := h
        exact SqL.of e) ?_ ?_
    · rintro i x σ H' hxi ⟨y3, kvs, rfl, s', el, eq, hT⟩
      obtain ⟨u, hu, rfl⟩ : ∃ u, (srcs zs)[i]? = some u ∧ x = .str u := by
        rw [List.getElem?_map] at hxi
        cases e : (srcs zs)[i]? with
        | none => rw [e] at hxi; cases hxi
        | some z => rw [e] at hxi; cases hxi; exact ⟨z, rfl, rfl⟩
      have fw := few hT diagN_in
      simp only [gName, List.set_cons_zero, List.set_cons_succ]
      refine ⟨_, rfl, _, rfl, _, rfl, by show 2 ≤ sizeLine; decide, fun t nt => ?_⟩
      have sT := same_upd (o := .tup [.str u, .str u]) nt
      refine ⟨q0, _, rfl, DPut.t (k := kP u u) (sT _ _ eq) upd_same (small60 (by omega)), ?_⟩
      refine ⟨_, _, rfl, fun c o e => ?_, ?_, upd_same, ?_⟩
      · rw [upd_ne (ne_of_none e nq)]
        exact sT _ _ (s' c o e)
      · rw [upd_ne l3q]
        exact sT _ _ el
      · rw [diagN_succ hu]
        exact hT.put u u 0
    rintro σ H4 ⟨y3, kvs0, rfl, s4, el4, eq4, hT4⟩
    rw [List.length_map, diagN_all] at hT4
    refine ⟨_, rfl, n, _, rfl, .inl (SqL.of (s4 _ _ hn)), _, _, rfl, rfl, zs.length + 2, ?_, by omega, by omega, ?_⟩
    · rw [List.length_map]
    have dV : InV (srcs zs) (M.diag (srcs zs)) := by rw [← diagN_all]; exact diagN_in
    refine for_range (n := zs.length + 2) (fun i σ H' => ∃ (y3 y4 y5 y6 y7 y8 : Option V) (kvs : List (List Key × V)), σ = [some (.ref n), some (.ref a), some (.ref q0), y3, y4, y5, y6, y7, y8] ∧ Same H H' ∧ H' q0 = some (.dT kvs) ∧ TbL kvs (M.rounds (srcs zs) L i (M.diag (srcs zs))) ∧ InV (srcs zs) (M.rounds (srcs zs) L i (M.diag (srcs zs))))
      ⟨_, _, _, _, _, _, kvs0, rfl, s4, eq4, hT4, dV⟩ ?_ ?_
    · rintro i σ H' hi ⟨y3, y4, y5, y6, y7, y8, kvs, rfl, s', eq, hT, hV⟩
      simp only [gName, List.set_cons_zero, List.set_cons_succ]
      refine ⟨_, rfl, a, rfl, ⟨_, SqL.of (s' _ _ ha)⟩, ?_⟩
      refine for_list (K := K) (a := a) (xs := xs) (fun j σ H' => ∃ (y3 y4 y5 y6 y7 y8 : Option V) (kvs : List (List Key × V)), σ = [some (.ref n), some (.ref a), some (.ref q0), y3, y4, y5, y6, y7, y8] ∧ Same H H' ∧ H' q0 = some (.dT kvs) ∧ TbL kvs ((L.take j).foldl (M.pass (srcs zs)) (M.rounds (srcs zs) L i (M.diag (srcs zs)))) ∧ InV (srcs zs) ((L.take j).foldl (M.pass (srcs zs)) (M.rounds (srcs zs) L i (M.diag (srcs zs)))))
        ⟨_, _, _, _, _, _, kvs, rfl, s', eq, hT, hV⟩ (fun j σ H' _ h => by
          obtain ⟨_, _, _, _, _, _, _, _, s', _⟩ := h
          exact SqL.of (s' _ _ ha)) ?_ ?_
      · rintro j x σ H1 hxj ⟨y3, y4, y5, y6, y7, y8, kvs, rfl, s1, eq1, hT1, hV1⟩
        obtain ⟨⟨fx, fy, fc⟩, hf, t, rfl, ht⟩ := hI.at_ j x hxj
        obtain ⟨mx, my⟩ := hin _ (List.mem_of_getElem? hf)
        have mx := src_mem.mpr mx
        have my := src_mem.mpr my
        refine ⟨t, _, rfl, SqT.of (s1 _ _ ht), rfl, _, _, rfl, _, _, rfl, _, _, rfl, rfl, ?_⟩
        simp only [gName, List.set_cons_zero, List.set_cons_succ]
        refine ⟨by show 1 ≤ sizeLine; decide, fun l1 n1 => ?_⟩
        have t1 := same_upd (o := .lst [.str ("" : Str)]) n1
        refine ⟨_, rfl, n, _, rfl, .inl (SqL.of (t1 _ _ (s1 _ _ hn))), fun l2 n2 => ?_⟩
        have t2 := t1.trans (same_upd (o := .lst (zs.map V.str)) n2)
        have e1 : (upd (upd H1 l1 (.lst [.str ("" : Str)])) l2 (.lst (zs.map V.str))) l1 = some (.lst [.str ("" : Str)]) := by rw [upd_ne (ne_of_none upd_same n2)]; exact upd_same
        refine ⟨l1, l2, _, _, rfl, rfl, e1, upd_same, ?_, fun l3 n3 => ?_⟩
        · rw [List.length_map]
          exact small_line (by rw [show ([V.str ("" : Str)]).length = 1 from rfl]; omega)
        have t3 := t2.trans (same_upd (o := .lst ([.str ("" : Str)] ++ zs.map V.str)) n3)
        have e3 : (upd (upd (upd H1 l1 (.lst [.str ("" : Str)])) l2 (.lst (zs.map V.str))) l3 (.lst ([.str ("" : Str)] ++ zs.map V.str))) l3 = some (.lst ((srcs zs).map V.str)) := upd_same
        generalize upd (upd (upd H1 l1 (.lst [.str ("" : Str)])) l2 (.lst (zs.map V.str))) l3 (.lst ([.str ("" : Str)] ++ zs.map V.str)) = H5 at t3 e3 ⊢
        have eq5 := t3 _ _ eq1
        have s5 := s1.trans t3
        have l3q : l3 ≠ q0 := ne_of e3 eq5 (by intro z; cases z)
        refine ⟨l3, rfl, ⟨_, SqL.of e3⟩, ?_⟩
        have hstep := foldl_take (M.pass (srcs zs)) L (M.rounds (srcs zs) L i (M.diag (srcs zs))) hf
        rw [hstep]
        generalize (L.take j).foldl (M.pass (srcs zs)) (M.rounds (srcs zs) L i (M.diag (srcs zs))) = T1 at hT1 hV1 ⊢
        refine for_list (K := K) (a := l3) (xs := (srcs zs).map V.str) (fun k σ H' => ∃ (y3 y4 y8 : Option V) (kvs : List (List Key × V)), σ = [some (.ref n), some (.ref a), some (.ref q0), y3, y4, some (.str fx), some (.str fy), some (.int fc), y8] ∧ Same H H' ∧ H' l3 = some (.lst ((srcs zs).map V.str)) ∧ H' q0 = some (.dT kvs) ∧
            TbL kvs (((srcs zs).take k).foldl (fun T o => M.rx T fx fy fc o) T1) ∧ InV (srcs zs) (((srcs zs).take k).foldl (fun T o => M.rx T fx fy fc o) T1))
          ⟨_, _, _, kvs, rfl, s5, e3, eq5, hT1, hV1⟩ (fun k σ H' _ h => by
            obtain ⟨_, _, _, _, _, _, e, _⟩ := h
            exact SqL.of e) ?_ ?_
        · rintro k x σ H2 hxk ⟨y3, y4, y8, kvs, rfl, s2, el2, eq2, hT2, hV2⟩
          obtain ⟨u, hu, rfl⟩ : ∃ u, (srcs zs)[k]? = some u ∧ x = .str u := by
            rw [List.getElem?_map] at hxk
            cases e : (srcs zs)[k]? with
            | none => rw [e] at hxk; cases hxk
            | some z => rw [e] at hxk; cases hxk; exact ⟨z, rfl, rfl⟩
          have mu := List.mem_of_getElem? hu
          have hst2 := foldl_take (fun T o => M.rx T fx fy fc o) (srcs zs) T1 hu
          rw [hst2]
          generalize ((srcs zs).take k).foldl (fun T o => M.rx T fx fy fc o) T1 = T2 at hT2 hV2 ⊢
          have fw := few hT2 hV2
          simp only [gName, List.set_cons_zero, List.set_cons_succ]
          refine ⟨_, rfl, _, rfl, by show 2 ≤ sizeLine; decide, fun t2 nt2 => ?_⟩
          have sT := same_upd (o := .tup [.str fy, .str u]) nt2
          refine ⟨_, rfl, q0, _, rfl, DGet.t (k := kP fy u) (sT _ _ eq2) upd_same, ?_⟩
          rw [hT2.val]
          cases eb : T2 fy u with
          | none =>
            have er : M.rx T2 fx fy fc u = T2 := by unfold M.rx; rw [eb]
            rw [er]
            refine ⟨_, rfl, iteF ?_⟩
            simp only [gName, List.set_cons_zero, List.set_cons_succ]
            exact ⟨_, rfl, rfl, _, rfl, iteF ⟨_, _, _, kvs, rfl, s2.trans sT, sT _ _ el2, sT _ _ eq2, hT2, hV2⟩⟩
          | some b =>
            refine ⟨_, rfl, iteT ?_⟩
            have vb : valV kvs (kP fy u) = some (.int b) := by rw [hT2.val, eb]; rfl
            refine ⟨_, rfl, _, rfl, _, rfl, by show 2 ≤ sizeLine; decide, fun t3 nt3 => ?_⟩
            have sU := sT.trans (same_upd (o := .tup [.str fy, .str u]) nt3)
            refine ⟨q0, .int b, rfl, by have h := DGet.t (k := kP fy u) (sU _ _ eq2) upd_same; rw [vb] at h; exact h, ?_⟩
            refine ⟨_, rfl, _, _, rfl, rfl, ?_⟩
            simp only [gName, List.set_cons_zero, List.set_cons_succ]
            refine ⟨_, rfl, rfl, _, rfl, iteT ?_⟩
            refine ⟨_, rfl, _, rfl, by show 2 ≤ sizeLine; decide, fun t4 nt4 => ?_⟩
            have sV := sU.trans (same_upd (o := .tup [.str fx, .str u]) nt4)
            refine ⟨_, rfl, q0, _, rfl, DGet.t (k := kP fx u) (sV _ _ eq2) upd_same, ?_⟩
            rw [hT2.val]
            have put : ∀ {H' : Hp} {D : Ends}, Same H2 H' → M.rx T2 fx fy fc u = M.put T2 fx u (b + fc) →
                (∀ (kvs' : List (List Key × V)) (H'' : Hp), Same H H'' → H'' l3 = some (.lst ((srcs zs).map V.str)) → H'' q0 = some (.dT kvs') → TbL kvs' (M.rx T2 fx fy fc u) → InV (srcs zs) (M.rx T2 fx fy fc u) → D.nx [some (V.ref n), some (.ref a), some (.ref q0), some (.str u), y4, some (.str fx), some (.str fy), some (.int fc), some (.int (b + fc))] H'') →
                sDPut (tVar 2) (tTup (tCons (tVar 5) (tCons (tVar 3) tNil))) (tVar 8) D [some (V.ref n), some (.ref a), some (.ref q0), some (.str u), y4, some (.str fx), some (.str fy), some (.int fc), some (.int (b + fc))] H' := fun {H' D} s3 er kk => by
              rw [er] at kk
              refine ⟨_, rfl, _, rfl, _, rfl, _, rfl, by show 2 ≤ sizeLine; decide, fun t5 nt5 => ?_⟩
              have sW := s3.trans (same_upd (o := .tup [.str fx, .str u]) nt5)
              refine ⟨q0, _, rfl, DPut.t (k := kP fx u) (sW _ _ eq2) upd_same (small60 (by omega)), ?_⟩
              refine kk _ _ (fun c o e => ?_) ?_ upd_same (hT2.put fx u (b + fc)) (hV2.put mx mu _)
              · rw [upd_ne (ne_of_none e nq)]
                exact sW _ _ (s2 c o e)
              · rw [upd_ne l3q]
                exact sW _ _ el2
            cases ea : T2 fx u with
            | none =>
              exact ⟨_, rfl, iteT (put sV (by unfold M.rx; rw [eb]; dsimp only; rw [ea]) fun kvs' H'' a1 a2 a3 a4 a5 => ⟨_, _, _, kvs', rfl, a1, a2, a3, a4, a5⟩)⟩
            | some g =>
              have vg : valV kvs (kP fx u) = some (.int g) := by rw [hT2.val, ea]; rfl
              refine ⟨_, rfl, iteF ?_⟩
              refine ⟨_, rfl, _, rfl, _, rfl, by show 2 ≤ sizeLine; decide, fun t5 nt5 => ?_⟩
              have sW := sV.trans (same_upd (o := .tup [.str fx, .str u]) nt5)
              refine ⟨q0, .int g, rfl, by have h := DGet.t (k := kP fx u) (sW _ _ eq2) upd_same; rw [vg] at h; exact h, ?_⟩
              refine ⟨_, rfl, _, _, rfl, rfl, _, rfl, ite2 (fun e => ?_) (fun e => ?_)⟩
              · have lt : b + fc < g := of_decide_eq_true e
                exact put sW (by unfold M.rx; rw [eb]; dsimp only; rw [ea]; dsimp only; rw [if_pos lt]) fun kvs' H'' a1 a2 a3 a4 a5 => ⟨_, _, _, kvs', rfl, a1, a2, a3, a4, a5⟩
              · have nl : ¬ b + fc < g := fun z => e (decide_eq_true z)
                have er : M.rx T2 fx fy fc u = T2 := by unfold M.rx; rw [eb]; dsimp only; rw [ea]; dsimp only; rw [if_neg nl]
                rw [er]
                exact ⟨_, _, _, kvs, rfl, s2.trans sW, sW _ _ el2, sW _ _ eq2, hT2, hV2⟩
        · rintro σ H2 ⟨y3, y4, y8, kvs, rfl, s2, el2, eq2, hT2, hV2⟩
          rw [List.length_map, List.take_length] at hT2 hV2
          exact ⟨_, _, _, _, _, _, kvs, rfl, s2, eq2, hT2, hV2⟩
      · rintro σ H1 ⟨y3, y4, y5, y6, y7, y8, kvs, rfl, s1, eq1, hT1, hV1⟩
        rw [hI.len, List.take_length] at hT1 hV1
        exact ⟨_, _, _, _, _, _, kvs, rfl, s1, eq1, hT1, hV1⟩
    · rintro σ H' ⟨y3, y4, y5, y6, y7, y8, kvs, rfl, s', eq, hT, hV⟩
      exact ⟨_, rfl, q q0 kvs H' nq s' eq hT⟩
end
end Fv


/-! Where no start keeps all facts (pure): the closing finds it, and the law's rounds find it. -/
namespace Fv.M
set_option linter.unusedSectionVars false
variable {S : Type} [DecidableEq S]

/-- how a walk first comes to `x`: it stands there, or keeps away from it up to a fact that leads to it -/
def Hit (F : Fa S) (A : S → Prop) (x u : S) (c : Int) (n : Nat) : Prop :=
  (u = x ∧ c = 0 ∧ n = 0) ∨ ∃ b d f m, Wk F (fun s => A s ∧ s ≠ x) u b d m ∧ (b, x, f) ∈ F ∧ c = d + f ∧ n = m + 1

theorem Wk.first {F : Fa S} {A : S → Prop} (x : S) : ∀ {u y c n}, Wk F A u y c n →
    Wk F (fun s => A s ∧ s ≠ x) u y c n ∨ ∃ c1 n1 c2 n2, Hit F A x u c1 n1 ∧ Wk F A x y c2 n2 ∧ c = c1 + c2 ∧ n = n1 + n2 := by
  intro u y c n w
  induction w with
  | @nil u a =>
    by_cases h : u = x
    · subst h
      exact .inr ⟨0, 0, 0, 0, .inl ⟨rfl, rfl, rfl⟩, .nil a, rfl, rfl⟩
    · exact .inl (.nil ⟨a, h⟩)
  | @cons u v y c d n h a w ih =>
    by_cases hu : u = x
    · subst hu
      exact .inr ⟨0, 0, c + d, n + 1, .inl ⟨rfl, rfl, rfl⟩, .cons h a w, by omega, by omega⟩
    rcases ih with ih | ⟨c1, n1, c2, n2, hh, w2, e1, e2⟩
    · exact .inl (.cons h ⟨a, hu⟩ ih)
    · rcases hh with ⟨r1, r2, r3⟩ | ⟨b, d1, f, m, w1, hf, r1, r2⟩
      · subst r1
        exact .inr ⟨c, 1, c2, n2, .inr ⟨u, 0, c, 0, .nil ⟨a, hu⟩, h, by omega, rfl⟩, w2, by omega, by omega⟩
      · exact .inr ⟨c + c1, n1 + 1, c2, n2, .inr ⟨b, c + d1, f, m + 1, .cons h ⟨a, hu⟩ w1, hf, by omega, by omega⟩, w2, by omega, by omega⟩

/-- a round walk below 0 of at most `k` facts -/
def Neg (F : Fa S) (V : List S) (k : Nat) : Prop := ∃ x c n, Wk F (fun s => s ∈ V) x x c n ∧ c < 0 ∧ n ≤ k

theorem drop_len {x : S} : ∀ {L : List S}, x ∈ L → (L.filter (fun s => decide (s ≠ x))).length < L.length := by
  intro L hL
  induction L with
  | nil => cases hL
  | cons a t it =>
    by_cases ha : a = x
    · subst ha
      have := List.length_filter_le (fun s => decide (s ≠ a)) t
      simp only [List.filter_cons, ne_eq, not_true_eq_false, decide_false, List.length_cons, Bool.false_eq_true, if_false]
      simp only [ne_eq] at this
      omega
    · have hm : x ∈ t := by
        cases hL with
        | head => exact absurd rfl ha
        | tail _ h => exact h
      have := it hm
      simp only [ne_eq] at this
      simp only [List.filter_cons, ne_eq, ha, not_false_eq_true, decide_true, if_true, List.length_cons]
      omega

theorem alt {F : Fa S} : ∀ (k : Nat) (V : List S), V.length ≤ k → ∀ {x y c n}, Wk F (fun s => s ∈ V) x y c n →
    (∃ c' n', Wk F (fun s => s ∈ V) x y c' n' ∧ c' ≤ c ∧ n' + 1 ≤ k) ∨ Neg F V k := by
  intro k
  induction k with
  | zero =>
    intro V hV x y c n w
    have := w.at0
    cases V with
    | nil => cases this
    | cons => simp at hV
  | succ k ih =>
    intro V hV x y c n
    have up : Neg F (V.filter (fun s => decide (s ≠ x))) k → Neg F V (k + 1) := fun ⟨z, c, n, w, h1, h2⟩ =>
      ⟨z, c, n, w.mono fun s hs => (List.mem_filter.1 hs).1, h1, by omega⟩
    have inV : ∀ {u v d m}, Wk F (fun s => s ∈ V ∧ s ≠ x) u v d m → Wk F (fun s => s ∈ V.filter (fun s => decide (s ≠ x))) u v d m :=
      fun w => w.mono fun s hs => List.mem_filter.2 ⟨hs.1, by simp [hs.2]⟩
    have outV : ∀ {u v d m}, Wk F (fun s => s ∈ V.filter (fun s => decide (s ≠ x))) u v d m → Wk F (fun s => s ∈ V) u v d m :=
      fun w => w.mono fun s hs => (List.mem_filter.1 hs).1
    induction n using Nat.strongRecOn generalizing c with
    | _ n rec_ =>
      intro w
      have hx := w.at0
      have hlen : (V.filter (fun s => decide (s ≠ x))).length ≤ k := by
        have := drop_len hx
        omega
      cases w with
      | nil a => exact .inl ⟨0, 0, .nil a, Int.le_refl _, by omega⟩
      | @cons _ z _ e d n h a w =>
        rcases w.first x with w' | ⟨c1, n1, c2, n2, hh, w2, e1, e2⟩
        · rcases ih _ hlen (inV w') with ⟨c', n', ws, hc, hn⟩ | hneg
          · exact .inl ⟨e + c', n' + 1, .cons h hx (outV ws), by omega, by omega⟩
          · exact .inr (up hneg)
        · by_cases hl : 0 ≤ e + c1
          · rcases rec_ n2 (by omega) w2 with ⟨c', n', ws, hc, hn⟩ | hneg
            · exact .inl ⟨c', n', ws, by omega, hn⟩
            · exact .inr hneg
          · rcases hh with ⟨r1, r2, r3⟩ | ⟨b, d1, f, m, w1, hf, r1, r2⟩
            · subst r1
              exact .inr ⟨z, e + 0, 0 + 1, .cons h hx (.nil hx), by omega, by omega⟩
            · rcases ih _ hlen (inV w1) with ⟨c', n', ws, hc, hn⟩ | hneg
              · have back : Wk F (fun s => s ∈ V) b x (f + 0) (0 + 1) := .cons hf (outV ws).at1 (.nil hx)
                have loop := Wk.cons h hx ((outV ws).app back)
                exact .inr ⟨x, _, _, loop, by omega, by omega⟩
              · exact .inr (up hneg)

/-- what goes round below 0 does so in as many facts as there are points -/
theorem neg_short {F : Fa S} {V : List S} {x : S} {c : Int} {n : Nat} (w : Wk F (fun s => s ∈ V) x x c n) (h : c < 0) : Neg F V V.length := by
  rcases alt V.length V (Nat.le_refl _) w with ⟨c', n', ws, hc, hn⟩ | hneg
  · exact ⟨x, c', n', ws, by omega, by omega⟩
  · exact hneg

/-- the law's rounds find it -/
theorem rounds_neg {F : Fa S} {V : List S} {k : Nat} (hk : V.length ≤ k) {x : S} {c : Int} {n : Nat} (w : Wk F (fun s => s ∈ V) x x c n) (h : c < 0) :
    ∃ z ∈ V, ∃ g, rounds V F k (diag V) z z = some g ∧ g < 0 := by
  obtain ⟨z, c', n', ws, hc, hn⟩ := neg_short w h
  obtain ⟨g, hg, hl⟩ := rounds_least ws
  obtain ⟨j, hj⟩ : ∃ j, k = n' + j := ⟨k - n', by omega⟩
  obtain ⟨g2, hg2, hl2⟩ := rounds_up (V := V) (F := F) (diag V) n' j _ _ _ hg
  exact ⟨z, ws.at0, g2, by rw [hj]; exact hg2, by omega⟩

/-! ### the closing, where no start is known -/
structure Cn (F : Fa S) (M : List S) (T : Tb S) : Prop where
  off : ∀ x, T x x = none
  walk : ∀ x y c, T x y = some c → ∃ n, Wk F (fun _ => True) x y c n
  fact : ∀ x y c, (x, y, c) ∈ F → x ≠ y → ∃ g, T x y = some g ∧ g ≤ c
  tri : ∀ m ∈ M, ∀ x y a b, T x m = some a → T m y = some b → x ≠ y → ∃ g, T x y = some g ∧ g ≤ a + b
  self : ∀ m ∈ M, ∀ x a b, T x m = some a → T m x = some b → 0 ≤ a + b
  ends : ∀ x y c, T x y = some c → (∃ y' c', (x, y', c') ∈ F ∧ x ≠ y') ∧ ∃ x' c', (x', y, c') ∈ F ∧ x' ≠ y

theorem Cn.first {F : Fa S} {T : Tb S} (h : Tg F T) : Cn F [] T where
  off := h.off
  walk := fun x y c e => ⟨1, by have := Wk.cons (A := fun _ => True) (h.from_ _ _ _ e) trivial (.nil trivial); simpa using this⟩
  fact := h.le
  tri := fun m hm => by cases hm
  self := fun m hm => by cases hm
  ends := fun x y c e => by
    have hxy : x ≠ y := fun q => by rw [q, h.off] at e; cases e
    exact ⟨⟨y, c, h.from_ _ _ _ e, hxy⟩, ⟨x, c, h.from_ _ _ _ e, hxy⟩⟩

/-- what stops the closing goes round below 0 -/
theorem Cn.bad {F : Fa S} {M : List S} {T : Tb S} (h : Cn F M T) {m : S} {L : Fa S} (o : Over T m L) {x : S} {c : Int} (hm : (x, x, c) ∈ L) (hc : c < 0) :
    ∃ n, Wk F (fun _ => True) x x c n := by
  rcases o.from_ _ _ _ hm with e | ⟨a, b, ha, hb, e⟩
  · rw [h.off] at e; cases e
  · obtain ⟨n1, w1⟩ := h.walk _ _ _ ha
    obtain ⟨n2, w2⟩ := h.walk _ _ _ hb
    exact ⟨n1 + n2, by rw [e]; exact w1.app w2⟩

theorem Cn.next {F : Fa S} {M : List S} {T T' : Tb S} (h : Cn F M T) {m : S} {L : Fa S} (o : Over T m L) (nr : ∀ x c, (x, x, c) ∈ L → 0 ≤ c) (t : Tg L T') :
    Cn F (m :: M) T' := by
  have case' : ∀ x y c, T' x y = some c → T x y = some c ∨ ∃ a b, T x m = some a ∧ T m y = some b ∧ c = a + b :=
    fun x y c e => o.from_ _ _ _ (t.from_ _ _ _ e)
  have low : ∀ x y c, T x y = some c → ∃ g, T' x y = some g ∧ g ≤ c := fun x y c e =>
    t.le _ _ _ (o.own _ _ _ e) (fun q => by rw [q, h.off] at e; cases e)
  have lowM : ∀ x y a b, T x m = some a → T m y = some b → x ≠ y → ∃ g, T' x y = some g ∧ g ≤ a + b := fun x y a b ha hb n =>
    t.le _ _ _ (o.way _ _ _ _ ha hb) n
  have round0 : ∀ x a b, T x m = some a → T m x = some b → 0 ≤ a + b := fun x a b ha hb => nr _ _ (o.way _ _ _ _ ha hb)
  have ownL : ∀ x c, T' x m = some c → T x m = some c := fun x c e => by
    rcases case' _ _ _ e with e | ⟨_, b', _, hb', _⟩
    · exact e
    · rw [h.off] at hb'; cases hb'
  have ownR : ∀ x c, T' m x = some c → T m x = some c := fun x c e => by
    rcases case' _ _ _ e with e | ⟨a', _, ha', _, _⟩
    · exact e
    · rw [h.off] at ha'; cases ha'
  refine ⟨t.off, fun x y c e => ?_, fun x y c hm n => ?_, ?_, ?_, fun x y c e => ?_⟩
  · rcases case' _ _ _ e with e | ⟨a, b, ha, hb, e⟩
    · exact h.walk _ _ _ e
    · obtain ⟨n1, w1⟩ := h.walk _ _ _ ha
      obtain ⟨n2, w2⟩ := h.walk _ _ _ hb
      exact ⟨n1 + n2, by rw [e]; exact w1.app w2⟩
  · obtain ⟨g, e, l⟩ := h.fact _ _ _ hm n
    obtain ⟨g', e', l'⟩ := low _ _ _ e
    exact ⟨g', e', by omega⟩
  · intro k hk x y a b ha hb hxy
    by_cases hkm : k = m
    · subst hkm
      exact lowM _ _ _ _ (ownL _ _ ha) (ownR _ _ hb) hxy
    have hk' : k ∈ M := by
      cases hk with
      | head => exact absurd rfl hkm
      | tail _ h => exact h
    have tri := h.tri k hk'
    rcases case' _ _ _ ha with ea | ⟨a1, a2, ha1, ha2, ea⟩
    · rcases case' _ _ _ hb with eb | ⟨b1, b2, hb1, hb2, eb⟩
      · obtain ⟨g, e, l⟩ := tri _ _ _ _ ea eb hxy
        obtain ⟨g', e', l'⟩ := low _ _ _ e
        exact ⟨g', e', by omega⟩
      · by_cases hxm : x = m
        · subst hxm
          have := round0 k b1 a hb1 ea
          obtain ⟨g', e', l'⟩ := low _ _ _ hb2
          exact ⟨g', e', by omega⟩
        · obtain ⟨g, e, l⟩ := tri _ _ _ _ ea hb1 hxm
          obtain ⟨g', e', l'⟩ := lowM _ _ _ _ e hb2 hxy
          exact ⟨g', e', by omega⟩
    · rcases case' _ _ _ hb with eb | ⟨b1, b2, hb1, hb2, eb⟩
      · by_cases hym : m = y
        · subst hym
          have := round0 k b a2 eb ha2
          obtain ⟨g', e', l'⟩ := low _ _ _ ha1
          exact ⟨g', e', by omega⟩
        · obtain ⟨g, e, l⟩ := tri _ _ _ _ ha2 eb hym
          obtain ⟨g', e', l'⟩ := lowM _ _ _ _ ha1 e hxy
          exact ⟨g', e', by omega⟩
      · have := round0 k b1 a2 hb1 ha2
        obtain ⟨g', e', l'⟩ := lowM _ _ _ _ ha1 hb2 hxy
        exact ⟨g', e', by omega⟩
  · intro k hk x a b ha hb
    by_cases hkm : k = m
    · subst hkm
      exact round0 _ _ _ (ownL _ _ ha) (ownR _ _ hb)
    have hk' : k ∈ M := by
      cases hk with
      | head => exact absurd rfl hkm
      | tail _ h => exact h
    have tri := h.tri k hk'
    rcases case' _ _ _ ha with ea | ⟨a1, a2, ha1, ha2, ea⟩
    · rcases case' _ _ _ hb with eb | ⟨b1, b2, hb1, hb2, eb⟩
      · exact h.self k hk' _ _ _ ea eb
      · by_cases hxm : x = m
        · subst hxm
          rw [h.off] at hb2; cases hb2
        · obtain ⟨g, e, l⟩ := tri _ _ _ _ ea hb1 hxm
          have := round0 _ _ _ e hb2
          omega
    · rcases case' _ _ _ hb with eb | ⟨b1, b2, hb1, hb2, eb⟩
      · by_cases hxm : m = x
        · subst hxm
          rw [h.off] at ha1; cases ha1
        · obtain ⟨g, e, l⟩ := tri _ _ _ _ ha2 eb hxm
          have := round0 _ _ _ ha1 e
          omega
      · have := round0 _ _ _ hb1 ha2
        have := round0 _ _ _ ha1 hb2
        omega
  · rcases case' _ _ _ e with e | ⟨a, b, ha, hb, _⟩
    · exact h.ends _ _ _ e
    · exact ⟨(h.ends _ _ _ ha).1, (h.ends _ _ _ hb).2⟩

/-- the least of some numbers and 0 -/
def low0 : List Int → Int
  | [] => 0
  | a :: l => if a ≤ low0 l then a else low0 l
theorem low0_le0 : ∀ l : List Int, low0 l ≤ 0
  | [] => Int.le_refl _
  | a :: l => by
    have := low0_le0 l
    unfold low0
    split <;> omega
theorem low0_le : ∀ {l : List Int} {a : Int}, a ∈ l → low0 l ≤ a
  | b :: l, a, h => by
    unfold low0
    rcases List.mem_cons.1 h with rfl | h
    · split <;> omega
    · have := low0_le h
      split <;> omega
theorem low0_at : ∀ l : List Int, low0 l = 0 ∨ low0 l ∈ l
  | [] => .inl rfl
  | a :: l => by
    unfold low0
    split
    · exact .inr List.mem_cons_self
    · rcases low0_at l with h | h
      · exact .inl h
      · exact .inr (List.mem_cons_of_mem _ h)

/-- closed without a stop: there is a start -/
theorem Cn.start {F : Fa S} {M V : List S} {T : Tb S} (h : Cn F M T) (nr : ∀ x c, (x, x, c) ∈ F → 0 ≤ c)
    (hM : ∀ m x y c d, (x, m, c) ∈ F → x ≠ m → (m, y, d) ∈ F → m ≠ y → m ∈ M)
    (hF : ∀ x y c, (x, y, c) ∈ F → x ∈ V ∧ y ∈ V) : ∃ p, Keeps F p := by
  refine ⟨fun x => low0 (V.filterMap (T x)), fun x y c hm => ?_⟩
  show low0 (V.filterMap (T x)) - low0 (V.filterMap (T y)) ≤ c
  by_cases hxy : x = y
  · subst hxy
    have := nr _ _ hm
    omega
  obtain ⟨a, ea, la⟩ := h.fact _ _ _ hm hxy
  rcases low0_at (V.filterMap (T y)) with e | e
  · have := low0_le (l := V.filterMap (T x)) (List.mem_filterMap.2 ⟨y, (hF _ _ _ hm).2, ea⟩)
    omega
  · obtain ⟨z, hz, ez⟩ := List.mem_filterMap.1 e
    obtain ⟨y', d', hd', nd'⟩ := (h.ends _ _ _ ez).1
    have hy := hM y x y' c d' hm hxy hd' nd'
    by_cases hxz : x = z
    · subst hxz
      have := h.self y hy _ _ _ ea ez
      have := low0_le0 (V.filterMap (T x))
      omega
    · obtain ⟨g, eg, lg⟩ := h.tri y hy _ _ _ _ ea ez hxz
      have := low0_le (l := V.filterMap (T x)) (List.mem_filterMap.2 ⟨z, hz, eg⟩)
      omega
/-- no start keeps what goes round below 0 -/
theorem no_start {F : Fa S} {A : S → Prop} {x : S} {c : Int} {n : Nat} (w : Wk F A x x c n) (h : c < 0) : ¬ ∃ p, Keeps F p := fun ⟨p, K⟩ => by
  have := w.pot K
  omega
end Fv.M


set_option Elab.async false
set_option linter.all false
set_option maxRecDepth 100000
set_option maxHeartbeats 4000000
namespace Fv
open PySem PySem.Spec PyProof.Rows L2
/-! ### what goes round below 0 is refused -/
/-- what the written part says of an own class of errors that is made of nothing -/
structure Err0 (K : PySem.W.Frag) (mg : Str → Option Value) (x : Str) (C : Addr) : Prop where
  ex : PySem.W.excIn K C [.type "ValueError", .type "Exception", .type "BaseException", .type "object"] "ValueError.__new__" = true
  g : mg x = some (.ref C)
  k : PySem.W.keepIn K (.ref C) = true
  b : PySem.W.subIn K (.ref C) (.type "BaseException") = some true
  t : PySem.W.typeIn K (.ref C) = some (.type "type")
/-- no fact about one source is below 0 -/
def Fine0 (L : List FaT) : Prop := ∀ x c, (x, x, c) ∈ L → 0 ≤ c
theorem not_fine {L : List FaT} (h : ¬ Fine0 L) : ∃ x c, (x, x, c) ∈ L ∧ c < 0 := by
  apply Classical.byContradiction
  intro n
  refine h fun x c hm => ?_
  apply Classical.byContradiction
  intro l
  exact n ⟨x, c, hm, by omega⟩
/-- a list or a tuple of the heap -/
def RowAt (H : Hp) (a : Addr) (xs : List V) : Prop := H a = some (.lst xs) ∨ H a = some (.tup xs)
theorem RowAt.same {H H' : Hp} {a : Addr} {xs : List V} (h : RowAt H a xs) (s : Same H H') : RowAt H' a xs := h.imp (s _ _) (s _ _)
theorem RowAt.ex {H : Hp} {a : Addr} {xs : List V} (h : RowAt H a xs) : ∃ o, H a = some o := h.elim (fun e => ⟨_, e⟩) fun e => ⟨_, e⟩
/-- rows: walked while they stand -/
def iRowA (tl : TE) : TI := fun σ H R => tl σ H fun x H1 => ∃ a xs, x = .ref a ∧ RowAt H1 a xs ∧ ∀ J G, Walk J xs.length G (YAt xs) → (∀ H', H' a = H1 a → G H') → R J H1
theorem pi_rowA {X : Cx} {tg l : Expr} {i : Nat} (hl : PE X l (tVar i)) : PI X tg l (iRowA (tVar i)) := by
  constructor
  intro pins s σ H R I h
  obtain ⟨v, e, a, xs, ev, hq, q⟩ := h
  rcases hq with hq | hq
  · exact (pi_list hl).run pins s σ H R I ⟨v, e, a, ev, ⟨xs, SqL.of hq⟩, q _ (fun H' => H' a = some (.lst xs)) ⟨fun i H hi h => walk_list.goes i H hi (SqL.of h), fun H h => walk_list.stops H (SqL.of h), fun i H x H' hi h y => walk_list.yields i H x H' hi (SqL.of h) y⟩ fun H' s => s.trans hq⟩
  · exact (pi_tup hl).run pins s σ H R I ⟨v, e, a, ev, ⟨xs, SqT.of hq⟩, q _ (fun H' => H' a = some (.tup xs)) ⟨fun i H hi h => walk_tup.goes i H hi (SqT.of h), fun H h => walk_tup.stops H (SqT.of h), fun i H x H' hi h y => walk_tup.yields i H x H' hi (SqT.of h) y⟩ fun H' s => s.trans hq⟩
def spTightA (CE : Addr) : Sp := fun vs H Q E => ∃ (a : Addr) (xs : List V) (L : List FaT), vs = [.ref a] ∧ RowAt H a xs ∧ Its H xs L ∧ L.length ≤ 6000 ∧
  (Fine0 L → ∀ (q : Addr) (kvs : List (List Key × V)) (T : M.Tb Str) (H' : Hp), H q = none → Same H H' → H' q = some (.dT kvs) → TbL kvs T → M.Tg L T → kvs.length ≤ L.length → Q (.ref q) H') ∧
  (¬ Fine0 L → ∀ H1, Same H H1 → E (.ref CE) none H1)
section
variable {P : Program} {w : World} {K : PySem.W.Frag} {mg : Str → Option Value} {base : Heap} {C CE : Addr}
theorem ok_tightA {f : Addr} {fd : FuncData} (F : Fun K "_tightest" "_tightest" sTight f fd) (U : Err0 K mg "NoStart" CE) : FnOk P w K mg base (L2.CX P w) 1 f fd ["facts"] (spTightA CE) := by
  refine F.okX scTg (fun vs H Q E h => ?_) (fun cdv A outer s H vs Q E hr h => ?_)
  · obtain ⟨a, xs, L, rfl, _⟩ := h
    rfl
  · obtain ⟨a, xs, L, rfl, ha, hx, hl, q, qE⟩ := h
    have hu := hu_of hr
    refine ⟨_, pss_cons (ps_set (i := 1) scTg.nd rfl (.inl rfl) pe_dnewT)
      (pss_cons (ps_for (passes_of rfl) rfl (pi_rowA (pv 0)) (pg_tup (by rfl) (pgs_cons (pg_name (i := 2) scTg.nd rfl (.inl rfl)) (pgs_cons (pg_name (i := 3) scTg.nd rfl (.inl rfl)) (pgs_cons (pg_name (i := 4) scTg.nd rfl (.inl rfl)) pgs_nil))))
        (pss_cons (ps_if (PW.pt (pw_and (pt_cmpR op_eq (pv 2) (pv 3) (nomark _)) (pw_and1 (pt_cmpR op_lt (pv 4) pe_int (nomark _)))))
          (pss_one (ps_raise (W := fun cls d _ H => E cls d H) rfl (takes_of rfl rfl rfl rfl) (pmk_own0 PySem.F.excBase_ValueError U.ex U.g U.k (raises_own U.b U.t) (by rfl)))) pss_nil)
        (pss_one (ps_if (PW.pt (pw_and (pt_cmpR op_ne (pv 2) (pv 3) (nomark _)) (pw_and1 (pt_cmpR op_lt (pv 4) (pe_dget2 hu (pv 1) (pe_tup (pa_cons (pv 2) (pa_cons (pv 3) pa_nil))) (pe_op op_add (pv 4) pe_int) ⟨rfl, rfl, rfl, rfl⟩) (nomark _)))))
          (pss_one (ps_dput hu (pv 1) (pe_tup (pa_cons (pv 2) (pa_cons (pv 3) pa_nil))) (pv 4) rfl)) pss_nil))))
      (pss_one (ps_ret (pv 1)))), ?_⟩
    intro q0 nq
    have w1 := same_upd (o := .dT []) nq
    dsimp only [gName]
    refine ⟨_, rfl, a, xs, rfl, ha.same w1, fun J G wk hG => ?_⟩
    have stA : ∀ {H' : Hp}, Same H H' → G H' := fun {H'} s => hG H' (by
      obtain ⟨o, e⟩ := ha.ex
      rw [s _ _ e, w1 _ _ e])
    refine for_it wk (fun i σ H' => ∃ (y2 y3 y4 : Option V) (kvs : List (List Key × V)) (T : M.Tb Str), σ = [some (.ref a), some (.ref q0), y2, y3, y4] ∧ Same H H' ∧ H' q0 = some (.dT kvs) ∧ TbL kvs T ∧ M.Tg (L.take i) T ∧ kvs.length ≤ i ∧ Fine0 (L.take i))
      ⟨none, none, none, [], _, rfl, w1, upd_same, .nil, .nil, Nat.le_refl _, fun _ _ h => (by cases h)⟩ (fun i σ H' _ h => ?_) ?_ ?_
    · obtain ⟨_, _, _, _, _, _, s', _⟩ := h
      exact stA s'
    · rintro i x σ H0 H' hi ⟨y2, y3, y4, kvs, T, rfl, s', eq, hT, tg, hk, fn⟩ ⟨rfl, hxi⟩
      obtain ⟨⟨fx, fy, fc⟩, hf, t, rfl, ht⟩ := hx.at_ i x hxi
      have ilt : i < L.length := (List.getElem?_eq_some_iff.mp hf).1
      have hm : (fx, fy, fc) ∈ L := List.mem_of_getElem? hf
      have tg' := tg.step (fx, fy, fc)
      have et : L.take (i + 1) = L.take i ++ [(fx, fy, fc)] := by rw [List.take_succ, hf]; rfl
      have fn' : (fx = fy → 0 ≤ fc) → Fine0 (L.take (i + 1)) := fun h x c hm => by
        rw [et] at hm
        rcases List.mem_append.mp hm with hm | hm
        · exact fn x c hm
        · have e := List.mem_singleton.mp hm
          cases e
          exact h rfl
      rw [← et] at tg'
      refine ⟨t, _, rfl, SqT.of (s' _ _ ht), rfl, _, _, rfl, _, _, rfl, _, _, rfl, rfl, ?_⟩
      refine ⟨_, rfl, _, rfl, rfl, _, rfl, ?_⟩
      by_cases hxy : fx = fy
      · subst hxy
        have e1 : M.tgStep T (fx, fx, fc) = T := by simp [M.tgStep]
        rw [e1] at tg'
        refine ite2 (fun e => ?_) (fun e => absurd (decide_eq_true (Eq.refl (V.str fx))) e)
        refine ⟨_, rfl, _, _, rfl, rfl, _, rfl, ite2 (fun e2 => ?_) (fun e2 => ?_)⟩
        · have z : fc < 0 := of_decide_eq_true e2
          exact qE (fun h => by have h0 : 0 ≤ fc := h _ _ hm; omega) H' s'
        have z : 0 ≤ fc := by
          apply Classical.byContradiction
          intro h
          exact e2 (decide_eq_true (show fc < 0 by omega))
        refine ⟨_, rfl, _, rfl, rfl, _, rfl, ite2 (fun e3 => ?_) (fun e3 => ?_)⟩
        · simp at e3
        · exact ⟨_, _, _, kvs, T, rfl, s', eq, hT, tg', by omega, fn' fun _ => z⟩
      · have ne : V.str fx ≠ V.str fy := fun z => hxy (V.str.inj z)
        have fn'' := fn' fun h => absurd h hxy
        refine ite2 (fun e => absurd (of_decide_eq_true e) ne) (fun e => ?_)
        refine ⟨_, rfl, _, rfl, rfl, _, rfl, ite2 (fun e3 => ?_) (fun e3 => ?_)⟩
        · refine ⟨_, rfl, _, rfl, ?_⟩
          refine ⟨q0, rfl, .inr ⟨kvs, .inl eq⟩, _, rfl, _, rfl, by show 2 ≤ sizeLine; decide, fun pk npk => ?_⟩
          have kq : pk ≠ q0 := (ne_of_none eq npk).symm
          have sK := same_upd (o := .tup [.str fx, .str fy]) npk
          refine ⟨_, rfl, _, _, rfl, rfl, _, DGet.t (k := kP fx fy) (sK _ _ eq) upd_same, ?_⟩
          rw [hT.val]
          obtain ⟨z, ez, hp, hn⟩ : ∃ z : Int, ((T fx fy).map V.int).getD (V.int (fc + 1)) = V.int z ∧ (fc < z → M.tgStep T (fx, fy, fc) = M.put T fx fy fc) ∧ (¬ fc < z → M.tgStep T (fx, fy, fc) = T) := by
            cases eT : T fx fy with
            | none =>
              refine ⟨fc + 1, rfl, fun _ => ?_, fun n => absurd (Int.lt_succ fc) n⟩
              unfold M.tgStep
              rw [if_pos ⟨hxy, fun g e => by rw [eT] at e; cases e⟩]
            | some g =>
              refine ⟨g, rfl, fun l => ?_, fun n => ?_⟩
              · unfold M.tgStep
                rw [if_pos ⟨hxy, fun g' e => by rw [eT] at e; cases e; exact l⟩]
              · unfold M.tgStep
                rw [if_neg (fun z => n (z.2 g eT))]
          refine ⟨_, _, rfl, ez, _, rfl, ite2 (fun e4 => ?_) (fun e4 => ?_)⟩
          · have lt : fc < z := of_decide_eq_true e4
            rw [hp lt] at tg'
            refine ⟨_, rfl, _, rfl, _, rfl, _, rfl, by show 2 ≤ sizeLine; decide, fun p2 np2 => ?_⟩
            have sK2 := sK.trans (same_upd (o := .tup [.str fx, .str fy]) np2)
            refine ⟨q0, _, rfl, DPut.t (k := kP fx fy) (sK2 _ _ eq) upd_same (Nat.lt_of_le_of_lt hk (small6k (by omega))), ?_⟩
            exact ⟨_, _, _, _, _, rfl, fun c o e => by rw [upd_ne (ne_of_none e nq)]; exact sK2 _ _ (s' c o e), upd_same, hT.put fx fy fc, tg', Nat.le_trans (putK_le _ _ _) (by omega), fn''⟩
          · have nl : ¬ fc < z := fun l => e4 (decide_eq_true l)
            rw [hn nl] at tg'
            exact ⟨_, _, _, kvs, T, rfl, s'.trans sK, sK _ _ eq, hT, tg', by omega, fn''⟩
        · simp [hxy] at e3
    · rintro σ H' ⟨y2, y3, y4, kvs, T, rfl, s', eq, hT, tg, hk, fn⟩
      rw [hx.len, List.take_length] at tg fn
      exact ⟨_, rfl, q fn q0 kvs T H' nq s' eq hT tg (by rw [← hx.len]; exact hk)⟩
end
end Fv


set_option Elab.async false
set_option linter.all false
set_option maxRecDepth 100000
set_option maxHeartbeats 4000000
namespace Fv.M
theorem Cn.cl {S : Type} [DecidableEq S] {F : Fa S} {p : S → Int} {Z : List S} {T : Tb S} (h : Cn F Z T) (K : Keeps F p) : Cl F p Z T :=
  ⟨h.off, fun x y c e => by obtain ⟨n, w⟩ := h.walk _ _ _ e; exact w.pot K, h.walk, h.fact, h.tri, h.ends⟩
end Fv.M
namespace Fv
open PySem PySem.Spec PyProof.Rows L2
def spClosedA (CE : Addr) : Sp := fun vs H Q E => ∃ (a : Addr) (xs : List V) (L : List FaT) (W : List Str), vs = [.ref a] ∧ RowAt H a xs ∧ Its H xs L ∧ L.length ≤ 1000 ∧ (∀ f ∈ L, f.1 ∈ W ∧ f.2.1 ∈ W) ∧ W.length ≤ 7 ∧
  ((∃ p, M.Keeps L p) → ∀ (q : Addr) (kvs : List (List Key × V)) (T : M.Tb Str) (Z : List Str) (H' : Hp), H q = none → Same H H' → H' q = some (.dT kvs) → TbL kvs T → (∀ p, M.Keeps L p → M.Cl L p Z T) →
    (∀ m x y c d, (x, m, c) ∈ L → x ≠ m → (m, y, d) ∈ L → m ≠ y → m ∈ Z) → Q (.ref q) H') ∧
  ((¬ ∃ p, M.Keeps L p) → ∀ H1, Same H H1 → E (.ref CE) none H1)
section
variable {P : Program} {w : World} {K : PySem.W.Frag} {mg : Str → Option Value} {base : Heap} {C CE : Addr}
theorem ok_closedA {f fT : Addr} {fd fdT : FuncData} (F : Fun K "_closed" "_closed" sClosed f fd)
    (GT : FnOk P w K mg base (L2.CX P w) 1 fT fdT ["facts"] (spTightA CE)) (bT : Binds K fdT ["facts"] []) (mT : mg "_tightest" = some (.ref fT)) (kT : PySem.W.keepIn K (.ref fT) = true)
    (mo : mg "sorted" = none) : FnOk P w K mg base (L2.CX P w) 2 f fd ["facts"] (spClosedA CE) := by
  refine F.okX scCd (fun vs H Q E h => ?_) (fun cdv A outer s H vs Q E hr h => ?_)
  · obtain ⟨a, _, _, _, rfl, _⟩ := h
    rfl
  · obtain ⟨a, xs, L, W, rfl, ha, hx, hl, hW, hw7, q, qE⟩ := h
    have hu := hu_of hr
    refine ⟨_, pss_cons (ps_set (i := 1) scCd.nd rfl (.inl rfl) (pe_call GT hr (by rfl) mT kT bT .nil (passes_call (W := fun cls d _ H => E cls d H) (takes_of rfl rfl rfl rfl) (fun _ _ _ _ h => h)) (pa_cons (pv 0) pa_nil)))
      (pss_cons (ps_for (passes_of rfl) rfl (pi_list (pe_callB (r := rSortX P w) (call_sortX rfl) (by rfl) mo (by decide +kernel) (pa_cons
        (pe_op (op_meet)
          (pe_lock (pe_scX (own := [("x", 6), ("_", 8)]) (g := gTup K 2 (gCons (gName 6) (gCons (gName 8) gNil))) (tt := tYes) rfl scCd.nd (pi_keys (pv 1)) (blkOk_by (N := nCd) (sc := defScope sClosed) (by decide +kernel))
            (fun _ _ _ _ _ => pg_tup (by rfl) (pgs_cons (pg_name (i := 6) scCd.nd rfl (.inl rfl)) (pgs_cons (pg_name (i := 8) scCd.nd rfl (.inl rfl)) pgs_nil))) (fun _ _ _ _ _ => pts_nil) (fun _ _ _ _ _ => pv 6)))
          (pe_lock (pe_scX (own := [("_", 8), ("y", 7)]) (g := gTup K 2 (gCons (gName 8) (gCons (gName 7) gNil))) (tt := tYes) rfl scCd.nd (pi_keys (pv 1)) (blkOk_by (N := nCd) (sc := defScope sClosed) (by decide +kernel))
            (fun _ _ _ _ _ => pg_tup (by rfl) (pgs_cons (pg_name (i := 8) scCd.nd rfl (.inl rfl)) (pgs_cons (pg_name (i := 7) scCd.nd rfl (.inl rfl)) pgs_nil))) (fun _ _ _ _ _ => pts_nil) (fun _ _ _ _ _ => pv 7)))) pa_nil))) (pg_name (i := 2) scCd.nd rfl (.inr rfl))
        (pss_cons (ps_lock (ps_setLc (i := 3) (own := [("x", 6), ("y", 7), ("c", 9)]) (g := gTup K 2 (gCons (gTup K 2 (gCons (gName 6) (gCons (gName 7) gNil))) (gCons (gName 9) gNil))) rfl scCd.nd rfl rfl (sw_true rfl rfl rfl (by decide +kernel)) (pi_itemsT (pv 1)) (blkOk_by (N := nCd) (sc := defScope sClosed) (by decide +kernel))
            (fun _ _ _ _ _ => pg_tup (by rfl) (pgs_cons (pg_tup (by rfl) (pgs_cons (pg_name (i := 6) scCd.nd rfl (.inl rfl)) (pgs_cons (pg_name (i := 7) scCd.nd rfl (.inl rfl)) pgs_nil))) (pgs_cons (pg_name (i := 9) scCd.nd rfl (.inl rfl)) pgs_nil)))
            (fun _ _ _ _ _ => pts_one (pt_cmpR (r := rEq) op_eq (pv 7) (pv 2) (nomark _))) (fun _ _ _ _ _ => pe_tup (pa_cons (pv 6) (pa_cons (pv 9) pa_nil)))))
        (pss_cons (ps_set (i := 4) scCd.nd rfl (.inr rfl) (pe_lock (pe_lc (own := [("x", 6), ("y", 7), ("c", 9)]) (g := gTup K 2 (gCons (gTup K 2 (gCons (gName 6) (gCons (gName 7) gNil))) (gCons (gName 9) gNil))) rfl scCd.nd (pi_itemsT (pv 1)) (blkOk_by (N := nCd) (sc := defScope sClosed) (by decide +kernel))
            (fun _ _ _ _ _ => pg_tup (by rfl) (pgs_cons (pg_tup (by rfl) (pgs_cons (pg_name (i := 6) scCd.nd rfl (.inl rfl)) (pgs_cons (pg_name (i := 7) scCd.nd rfl (.inl rfl)) pgs_nil))) (pgs_cons (pg_name (i := 9) scCd.nd rfl (.inl rfl)) pgs_nil)))
            (fun _ _ _ _ _ => pts_one (pt_cmpR (r := rEq) op_eq (pv 6) (pv 2) (nomark _))) (fun _ _ _ _ _ => pe_tup (pa_cons (pv 7) (pa_cons (pv 9) pa_nil))))))
        (pss_cons (ps_lock (ps_setLc (i := 5) (own := [("x", 6), ("y", 7), ("c", 9)]) (g := gTup K 2 (gCons (gTup K 2 (gCons (gName 6) (gCons (gName 7) gNil))) (gCons (gName 9) gNil))) (tt := tYes) rfl scCd.nd rfl rfl (sw_true rfl rfl rfl (by decide +kernel)) (pi_itemsT (pv 1)) (blkOk_by (N := nCd) (sc := defScope sClosed) (by decide +kernel))
            (fun _ _ _ _ _ => pg_tup (by rfl) (pgs_cons (pg_tup (by rfl) (pgs_cons (pg_name (i := 6) scCd.nd rfl (.inl rfl)) (pgs_cons (pg_name (i := 7) scCd.nd rfl (.inl rfl)) pgs_nil))) (pgs_cons (pg_name (i := 9) scCd.nd rfl (.inl rfl)) pgs_nil)))
            (fun _ _ _ _ _ => pts_nil) (fun _ _ _ _ _ => pe_tup (pa_cons (pv 6) (pa_cons (pv 7) (pa_cons (pv 9) pa_nil))))))
        (pss_one (ps_set (i := 1) scCd.nd rfl (.inl rfl) (pe_call GT hr (by rfl) mT kT bT .nil (passes_call (W := fun cls d _ H => E cls d H) (takes_of rfl rfl rfl rfl) (fun _ _ _ _ h => h)) (pa_cons (pe_op op_cat (pv 5)
            (pe_lc2 (own := [("x", 6), ("c", 9), ("y", 7), ("d", 10)]) (vs1 := [7, 10]) (g := gTup K 2 (gCons (gName 6) (gCons (gName 9) gNil))) (g1 := gTup K 2 (gCons (gName 7) (gCons (gName 10) gNil))) (tt := tYes) (tt1 := tYes) (wi1 := iList K (tVar 4)) rfl scCd.nd (pi_list (pv 3)) (blkOk_by (N := nCd) (sc := defScope sClosed) (by decide +kernel)) (by decide)
            (fun _ _ _ _ _ => pg_tup (by rfl) (pgs_cons (pg_name (i := 6) scCd.nd rfl (.inl rfl)) (pgs_cons (pg_name (i := 9) scCd.nd rfl (.inl rfl)) pgs_nil))) (fun _ _ _ _ _ => pts_nil)
            (fun _ _ _ _ _ => pi_list (pv 4))
            (fun _ _ _ _ _ => pg_tup (by rfl) (pgs_cons (pg_name (i := 7) scCd.nd rfl (.inl rfl)) (pgs_cons (pg_name (i := 10) scCd.nd rfl (.inl rfl)) pgs_nil))) (fun _ _ _ _ _ => pts_nil)
            (fun _ _ _ _ _ => pe_tup (pa_cons (pv 6) (pa_cons (pv 7) (pa_cons (pe_op op_add (pv 9) (pv 10)) pa_nil)))))) pa_nil))))))))
      (pss_one (ps_ret (pv 1)))), ?_⟩
    refine ⟨_, rfl, a, xs, L, rfl, ha, hx, by omega, fun fn0 q0 kvs0 T0 H1 nq0 s1 eq0 hT0 tg0 hk0 => ?_, fun nf H1 s1 => qE (fun ⟨p, K0⟩ => by
      obtain ⟨z, c, hm, hc⟩ := not_fine nf
      have := K0 _ _ _ hm
      omega) H1 s1⟩
    dsimp only [gName]
    have cl0 := M.Cn.first tg0
    have inW : ∀ {Z : List Str} {T : M.Tb Str}, M.Cn L Z T → ∀ x y c, T x y = some c → x ∈ W ∧ y ∈ W := fun cl x y c e => by
      obtain ⟨⟨y', c', h1, _⟩, x', c'', h2, _⟩ := cl.ends x y c e
      exact ⟨(hW _ h1).1, (hW _ h2).2⟩
    have few : ∀ {Z : List Str} {T : M.Tb Str} {kvs : List (List Key × V)}, TbL kvs T → M.Cn L Z T → kvs.length ≤ 49 := fun hT cl => by
      have h1 := hT.few W (inW cl)
      have h2 := Nat.mul_le_mul hw7 hw7
      omega
    have k0 := few hT0 cl0
    refine ⟨q0, .dT kvs0, eq0, True.intro, fun od => ?_⟩
    refine ⟨_, rfl, q0, od, rfl, .inr ⟨kvs0, upd_same, fun D nD => ?_⟩⟩
    obtain ⟨Dq0, D1⟩ := locked_new nD
    refine sc_it (walk_keysT (d := q0) (o := od) (kvs := kvs0)) (fun i H' => Same (upd H1 q0 (.frz od (.dT kvs0))) H' ∧ ∃ S, H' D = some (TxtO P w D S) ∧ S.length ≤ i ∧ ∀ z, z ∈ S ↔ ∃ f ∈ (ents kvs0).take i, f.1 = z)
      ⟨same_upd nD, [], upd_same, Nat.zero_le _, fun z => by simp⟩ (fun i H' _ h => h.1 _ _ upd_same) ?_ ?_
    · rintro i x H' H2 hi ⟨s', S, eS, lS, mS⟩ ⟨rfl, kk, v, t, hkv, rfl, ht⟩
      obtain ⟨fx, fy, fc, rfl, rfl, hT, hf⟩ := hT0.item hkv
      refine ⟨t, _, rfl, SqT.of ht, rfl, _, _, rfl, _, _, rfl, rfl, rfl, _, rfl, fx, S, rfl, eS, by rw [show scanBound = 4096 from rfl]; omega, fun c o e => ?_, _, upd_same, Nat.le_trans (insL_le _ _) (by omega), fun z => ?_⟩
      · rw [upd_ne (ne_of_none e nD)]
        exact s' c o e
      · rw [mem_insL, mS, List.take_succ, hf]
        constructor
        · rintro (⟨f, h1, h2⟩ | rfl)
          · exact ⟨f, List.mem_append_left _ h1, h2⟩
          · exact ⟨_, List.mem_append_right _ List.mem_cons_self, rfl⟩
        · rintro ⟨f, h1, h2⟩
          rcases List.mem_append.mp h1 with h1 | h1
          · exact .inl ⟨f, h1, h2⟩
          · have e : f = (fx, fy, fc) := by simpa using h1
            exact .inr (by rw [← h2, e])
    rintro H2 ⟨s2', S1, eS1, lS1, mS1⟩
    refine ⟨s2' _ _ upd_same, ?_⟩
    have s2 := unlock eq0 s2'
    have eD2 : (upd H2 q0 (.dT kvs0)) D = some (TxtO P w D S1) := by rw [upd_ne Dq0]; exact eS1
    have eq2 : (upd H2 q0 (.dT kvs0)) q0 = some (.dT kvs0) := upd_same
    rw [← ents_len, List.take_length] at mS1
    generalize upd H2 q0 (.dT kvs0) = H3 at s2 eD2 eq2 ⊢
    refine ⟨q0, .dT kvs0, eq2, True.intro, fun od2 => ?_⟩
    refine ⟨_, rfl, q0, od2, rfl, .inr ⟨kvs0, upd_same, fun D2 nD2 => ?_⟩⟩
    obtain ⟨D2q0, D21⟩ := locked_new nD2
    refine sc_it (walk_keysT (d := q0) (o := od2) (kvs := kvs0)) (fun i H' => Same (upd H3 q0 (.frz od2 (.dT kvs0))) H' ∧ ∃ S, H' D2 = some (TxtO P w D2 S) ∧ S.length ≤ i ∧ ∀ z, z ∈ S ↔ ∃ f ∈ (ents kvs0).take i, f.2.1 = z)
      ⟨same_upd nD2, [], upd_same, Nat.zero_le _, fun z => by simp⟩ (fun i H' _ h => h.1 _ _ upd_same) ?_ ?_
    · rintro i x H' H2 hi ⟨s', S, eS, lS, mS⟩ ⟨rfl, kk, v, t, hkv, rfl, ht⟩
      obtain ⟨fx, fy, fc, rfl, rfl, hT, hf⟩ := hT0.item hkv
      refine ⟨t, _, rfl, SqT.of ht, rfl, _, _, rfl, _, _, rfl, rfl, rfl, _, rfl, fy, S, rfl, eS, by rw [show scanBound = 4096 from rfl]; omega, fun c o e => ?_, _, upd_same, Nat.le_trans (insL_le _ _) (by omega), fun z => ?_⟩
      · rw [upd_ne (ne_of_none e nD2)]
        exact s' c o e
      · rw [mem_insL, mS, List.take_succ, hf]
        constructor
        · rintro (⟨f, h1, h2⟩ | rfl)
          · exact ⟨f, List.mem_append_left _ h1, h2⟩
          · exact ⟨_, List.mem_append_right _ List.mem_cons_self, rfl⟩
        · rintro ⟨f, h1, h2⟩
          rcases List.mem_append.mp h1 with h1 | h1
          · exact .inl ⟨f, h1, h2⟩
          · have e : f = (fx, fy, fc) := by simpa using h1
            exact .inr (by rw [← h2, e])
    rintro H4 ⟨s4', S2, eS2, lS2, mS2⟩
    refine ⟨s4' _ _ upd_same, ?_⟩
    have s4 := unlock eq2 s4'
    have eD4 : (upd H4 q0 (.dT kvs0)) D2 = some (TxtO P w D2 S2) := by rw [upd_ne D2q0]; exact eS2
    have eD14 := s4 _ _ eD2
    have eq4 : (upd H4 q0 (.dT kvs0)) q0 = some (.dT kvs0) := upd_same
    rw [← ents_len, List.take_length] at mS2
    generalize upd H4 q0 (.dT kvs0) = H5 at s4 eD4 eD14 eq4 ⊢
    have DD : D ≠ D2 := ne_of_none eD2 D21
    refine ⟨D, D2, S1, S2, rfl, rfl, DD, eD14, eD4, fun Mm N ndN hN nM => ?_⟩
    have s6 := same_upd (o := TxtO P w Mm N) nM
    have inN : ∀ z ∈ N, z ∈ W := fun z hz => by
      obtain ⟨⟨x, y, c⟩, h1, h2⟩ := (mS1 z).mp ((hN z).mp hz).1
      have := (inW cl0 _ _ _ (hT0.mem.mp h1)).1
      rw [← h2]
      exact this
    have lN : N.length ≤ 7 := Nat.le_trans (nodup_len ndN inN) hw7
    refine ⟨Mm, N, rfl, upd_same, by omega, fun ys Ll perm srt nL wL => ?_⟩
    have s7 := same_upd (o := .lst (ys.map V.str)) nL
    have s17 := (((s1.trans s2).trans s4).trans s6).trans s7
    have eq7 := s7 _ _ (s6 _ _ eq4)
    have eL7 : (upd (upd H5 Mm (TxtO P w Mm N)) Ll (.lst (ys.map V.str))) Ll = some (.lst (ys.map V.str)) := upd_same
    have hMid : ∀ m x y c d, (x, m, c) ∈ L → x ≠ m → (m, y, d) ∈ L → m ≠ y → m ∈ ys := fun m x y c d h1 n1 h2 n2 => by
      rw [perm.mem_iff, hN, mS1, mS2]
      obtain ⟨g1, e1, _⟩ := tg0.le _ _ _ h1 n1
      obtain ⟨g2, e2, _⟩ := tg0.le _ _ _ h2 n2
      exact ⟨⟨_, hT0.mem.mpr e2, rfl⟩, ⟨_, hT0.mem.mpr e1, rfl⟩⟩
    have nq7 : H q0 = none := nq0
    refine ⟨Ll, rfl, ⟨_, SqL.of upd_same⟩, ?_⟩
    refine for_list (K := K) (a := Ll) (xs := ys.map V.str) (fun i σ H' => ∃ (q1 : Addr) (kvs : List (List Key × V)) (T : M.Tb Str) (Z : List Str) (y2 y3 y4 y5 y6 y7 y8 y9 y10 : Option V), σ = [some (.ref a), some (.ref q1), y2, y3, y4, y5, y6, y7, y8, y9, y10] ∧ H q1 = none ∧ Same H H' ∧ H' Ll = some (.lst (ys.map V.str)) ∧ H' q1 = some (.dT kvs) ∧ TbL kvs T ∧ M.Cn L Z T ∧ ∀ z ∈ ys.take i, z ∈ Z)
      ⟨q0, kvs0, T0, [], none, none, none, none, none, none, none, none, none, rfl, nq0, s17, eL7, eq7, hT0, cl0, fun z hz => by simp at hz⟩ (fun i σ H' _ h => by
        obtain ⟨_, _, _, _, _, _, _, _, _, _, _, _, _, _, _, _, e, _⟩ := h
        exact SqL.of e) ?_ ?_
    · rintro i x σ H' hxi ⟨q1, kvs, T, Z, y2, y3, y4, y5, y6, y7, y8, y9, y10, rfl, nq1, s', eL, eq, hT, cl, hZ⟩
      obtain ⟨m, hmi, rfl⟩ : ∃ z, ys[i]? = some z ∧ x = .str z := by
        rw [List.getElem?_map] at hxi
        cases e : ys[i]? with
        | none => rw [e] at hxi; cases hxi
        | some z => rw [e] at hxi; cases hxi; exact ⟨z, rfl, rfl⟩
      have et : ys.take (i + 1) = ys.take i ++ [m] := by rw [List.take_succ, hmi]; rfl
      have kk := few hT cl
      have el : (ents kvs).length ≤ 49 := by rw [ents_len]; exact kk
      have al := Nat.le_trans (ahead_len (E := ents kvs) (m := m)) el
      have bl := Nat.le_trans (behind_len (E := ents kvs) (m := m)) el
      -- ahead
      refine ⟨q1, .dT kvs, eq, True.intro, fun od1 => ?_⟩
      refine ⟨_, rfl, q1, od1, kvs, rfl, upd_same, fun A nA => ?_⟩
      obtain ⟨Aq, A1⟩ := locked_new nA
      refine lc_it walk_itemsT (fun j H2 => Same (upd H' q1 (.frz od1 (.dT kvs))) H2 ∧ ∃ xs, H2 A = some (.lst xs) ∧ Prs H2 xs (aheadOf ((ents kvs).take j) m))
        ⟨same_upd nA, [], upd_same, .nil⟩ (fun j H2 _ h => h.1 _ _ upd_same) ?_ ?_
      · rintro j x H2 H3 hj ⟨s2, xs2, e2, p2⟩ ⟨N1, kq, kk2, val, hkv, rfl, nN, hkq, rfl⟩
        obtain ⟨fx, fy, fc, rfl, rfl, hT2, hf⟩ := hT.item hkv
        have sN := same_upd (o := .tup [.ref kq, .int fc]) nN
        refine ⟨N1, _, rfl, SqT.of upd_same, rfl, _, _, rfl, ⟨kq, _, rfl, SqT.of (sN _ _ hkq), rfl, _, _, rfl, _, _, rfl, rfl, _, _, rfl, rfl, rfl, ?_⟩⟩
        refine ⟨_, rfl, _, rfl, rfl, _, rfl, ite2 (fun e => ?_) (fun e => ?_)⟩
        · obtain rfl : fy = m := V.str.inj (of_decide_eq_true e)
          refine ⟨_, rfl, _, rfl, by show 2 ≤ sizeLine; decide, fun t nt => ?_⟩
          have sT := sN.trans (same_upd (o := .tup [.str fx, .int fc]) nt)
          refine ⟨xs2, sT _ _ e2, small6k (by rw [p2.len]; have := ahead_len (E := (ents kvs).take j) (m := fy); rw [List.length_take] at this; omega), fun c o e => ?_, _, upd_same, ?_⟩
          · rw [upd_ne (ne_of_none e nA)]
            exact sT _ _ (s2 c o e)
          · rw [ahead_snoc hf, if_pos rfl]
            refine (p2.same fun t' ys e => ?_).snoc (by rw [upd_ne (ne_of (sT _ _ e2) upd_same (by intro z; cases z)).symm]; exact upd_same)
            rw [upd_ne (ne_of e e2 (by intro z; cases z))]
            exact sT _ _ e
        · have nm : ¬ fy = m := fun z => e (decide_eq_true (congrArg V.str z))
          refine ⟨s2.trans sN, xs2, sN _ _ e2, ?_⟩
          rw [ahead_snoc hf, if_neg nm, List.append_nil]
          exact p2.same fun t' ys e => sN _ _ e
      rintro H2 ⟨s2', xsA, eA2, pA2⟩
      refine ⟨s2' _ _ upd_same, ?_⟩
      have s2 := unlock eq s2'
      rw [← ents_len, List.take_length] at pA2
      have eA3 : (upd H2 q1 (.dT kvs)) A = some (.lst xsA) := by rw [upd_ne Aq]; exact eA2
      have pA3 : Prs (upd H2 q1 (.dT kvs)) xsA (aheadOf (ents kvs) m) := pA2.same fun t ys e => by rw [upd_ne (ne_of e (s2' _ _ upd_same) (by intro z; cases z))]; exact e
      have eq3 : (upd H2 q1 (.dT kvs)) q1 = some (.dT kvs) := upd_same
      generalize upd H2 q1 (.dT kvs) = H3 at s2 eA3 pA3 eq3 ⊢
      -- behind
      dsimp only [gName]
      refine ⟨q1, .dT kvs, eq3, True.intro, fun od2 => ?_⟩
      refine ⟨_, rfl, q1, od2, kvs, rfl, upd_same, fun B nB => ?_⟩
      obtain ⟨Bq, B1⟩ := locked_new nB
      refine lc_it walk_itemsT (fun j H2 => Same (upd H3 q1 (.frz od2 (.dT kvs))) H2 ∧ ∃ xs, H2 B = some (.lst xs) ∧ Prs H2 xs (behindOf ((ents kvs).take j) m))
        ⟨same_upd nB, [], upd_same, .nil⟩ (fun j H2 _ h => h.1 _ _ upd_same) ?_ ?_
      · rintro j x H2 H4 hj ⟨s3, xs2, e2, p2⟩ ⟨N1, kq, kk2, val, hkv, rfl, nN, hkq, rfl⟩
        obtain ⟨fx, fy, fc, rfl, rfl, hT2, hf⟩ := hT.item hkv
        have sN := same_upd (o := .tup [.ref kq, .int fc]) nN
        refine ⟨N1, _, rfl, SqT.of upd_same, rfl, _, _, rfl, ⟨kq, _, rfl, SqT.of (sN _ _ hkq), rfl, _, _, rfl, _, _, rfl, rfl, _, _, rfl, rfl, rfl, ?_⟩⟩
        refine ⟨_, rfl, _, rfl, rfl, _, rfl, ite2 (fun e => ?_) (fun e => ?_)⟩
        · obtain rfl : fx = m := V.str.inj (of_decide_eq_true e)
          refine ⟨_, rfl, _, rfl, by show 2 ≤ sizeLine; decide, fun t nt => ?_⟩
          have sT := sN.trans (same_upd (o := .tup [.str fy, .int fc]) nt)
          refine ⟨xs2, sT _ _ e2, small6k (by rw [p2.len]; have := behind_len (E := (ents kvs).take j) (m := fx); rw [List.length_take] at this; omega), fun c o e => ?_, _, upd_same, ?_⟩
          · rw [upd_ne (ne_of_none e nB)]
            exact sT _ _ (s3 c o e)
          · rw [behind_snoc hf, if_pos rfl]
            refine (p2.same fun t' ys e => ?_).snoc (by rw [upd_ne (ne_of (sT _ _ e2) upd_same (by intro z; cases z)).symm]; exact upd_same)
            rw [upd_ne (ne_of e e2 (by intro z; cases z))]
            exact sT _ _ e
        · have nm : ¬ fx = m := fun z => e (decide_eq_true (congrArg V.str z))
          refine ⟨s3.trans sN, xs2, sN _ _ e2, ?_⟩
          rw [behind_snoc hf, if_neg nm, List.append_nil]
          exact p2.same fun t' ys e => sN _ _ e
      rintro H4 ⟨s4', xsB, eB4, pB4⟩
      refine ⟨s4' _ _ upd_same, ?_⟩
      have s4 := unlock eq3 s4'
      rw [← ents_len, List.take_length] at pB4
      have eB5 : (upd H4 q1 (.dT kvs)) B = some (.lst xsB) := by rw [upd_ne Bq]; exact eB4
      have pB5 : Prs (upd H4 q1 (.dT kvs)) xsB (behindOf (ents kvs) m) := pB4.same fun t ys e => by rw [upd_ne (ne_of e (s4' _ _ upd_same) (by intro z; cases z))]; exact e
      have eA5 := s4 _ _ eA3
      have pA5 := pA3.same (H' := upd H4 q1 (.dT kvs)) fun t ys e => s4 _ _ e
      have eq5 : (upd H4 q1 (.dT kvs)) q1 = some (.dT kvs) := upd_same
      generalize upd H4 q1 (.dT kvs) = H5 at s4 eB5 pB5 eA5 pA5 eq5 ⊢
      -- known
      refine ⟨q1, .dT kvs, eq5, True.intro, fun od3 => ?_⟩
      refine ⟨_, rfl, q1, od3, kvs, rfl, upd_same, fun D3 nD3 => ?_⟩
      obtain ⟨D3q, D31⟩ := locked_new nD3
      refine lc_it walk_itemsT (fun j H2 => Same (upd H5 q1 (.frz od3 (.dT kvs))) H2 ∧ ∃ xs, H2 D3 = some (.lst xs) ∧ Its H2 xs ((ents kvs).take j))
        ⟨same_upd nD3, [], upd_same, .nil⟩ (fun j H2 _ h => h.1 _ _ upd_same) ?_ ?_
      · rintro j x H2 H6 hj ⟨s5, xs2, e2, p2⟩ ⟨N1, kq, kk2, val, hkv, rfl, nN, hkq, rfl⟩
        obtain ⟨fx, fy, fc, rfl, rfl, hT2, hf⟩ := hT.item hkv
        have sN := same_upd (o := .tup [.ref kq, .int fc]) nN
        refine ⟨N1, _, rfl, SqT.of upd_same, rfl, _, _, rfl, ⟨kq, _, rfl, SqT.of (sN _ _ hkq), rfl, _, _, rfl, _, _, rfl, rfl, _, _, rfl, rfl, rfl, ?_⟩⟩
        refine ⟨_, rfl, _, rfl, _, rfl, by show 3 ≤ sizeLine; decide, fun t nt => ?_⟩
        have sT := sN.trans (same_upd (o := .tup [.str fx, .str fy, .int fc]) nt)
        have e1 : (ents kvs).take (j + 1) = (ents kvs).take j ++ [(fx, fy, fc)] := by rw [List.take_succ, hf]; rfl
        refine ⟨xs2, sT _ _ e2, small6k (by rw [p2.len, List.length_take]; omega), fun c o e => ?_, _, upd_same, ?_⟩
        · rw [upd_ne (ne_of_none e nD3)]
          exact sT _ _ (s5 c o e)
        · rw [e1]
          refine (p2.samT fun t' ys e => ?_).snoc (by rw [upd_ne (ne_of (sT _ _ e2) upd_same (by intro z; cases z)).symm]; exact upd_same)
          rw [upd_ne (ne_of e e2 (by intro z; cases z))]
          exact sT _ _ e
      rintro H6 ⟨s6', xsK, eK6, pK6⟩
      refine ⟨s6' _ _ upd_same, ?_⟩
      have s6 := unlock eq5 s6'
      rw [← ents_len, List.take_length] at pK6
      have eK7 : (upd H6 q1 (.dT kvs)) D3 = some (.lst xsK) := by rw [upd_ne D3q]; exact eK6
      have pK7 : Its (upd H6 q1 (.dT kvs)) xsK (ents kvs) := pK6.samT fun t ys e => by rw [upd_ne (ne_of e (s6' _ _ upd_same) (by intro z; cases z))]; exact e
      have eA7 := s6 _ _ eA5
      have pA7 := pA5.same (H' := upd H6 q1 (.dT kvs)) fun t ys e => s6 _ _ e
      have eB7 := s6 _ _ eB5
      have pB7 := pB5.same (H' := upd H6 q1 (.dT kvs)) fun t ys e => s6 _ _ e
      have s07 := ((s'.trans s2).trans s4).trans s6
      have eL7 := s6 _ _ (s4 _ _ (s2 _ _ eL))
      clear s6' s4' s2' eK6 pK6 eB4 pB4 eA2 pA2 s2 s4
      generalize upd H6 q1 (.dT kvs) = H7 at s6 eK7 pK7 eA7 pA7 eB7 pB7 s07 eL7 ⊢
      dsimp only [gName]
      -- the ways
      refine ⟨_, rfl, _, rfl, A, rfl, ⟨_, SqL.of eA7⟩, fun G nG => ?_⟩
      refine loop_it (walk_list (K := K) (a := A) (xs := xsA)) (fun j H2 => Same H7 H2 ∧ ∃ xs, H2 G = some (.lst xs) ∧ Its H2 xs (waysOf ((aheadOf (ents kvs) m).take j) (behindOf (ents kvs) m)))
        ⟨same_upd nG, [], upd_same, .nil⟩ (fun j H2 _ h => SqL.of (h.1 _ _ eA7)) ?_ ?_
      · rintro j x H2 H8 hj ⟨s8, xs2, e2, p2⟩ ⟨rfl, hxj⟩
        obtain ⟨⟨fx, fc⟩, hf, t, rfl, ht⟩ := pA7.at_ _ _ hxj
        have ht2 := s8 _ _ ht
        have jl : j < (aheadOf (ents kvs) m).length := (List.getElem?_eq_some_iff.mp hf).1
        have e1 : waysOf ((aheadOf (ents kvs) m).take (j + 1)) (behindOf (ents kvs) m) = waysOf ((aheadOf (ents kvs) m).take j) (behindOf (ents kvs) m) ++ (behindOf (ents kvs) m).map fun b => (fx, b.1, fc + b.2) := by
          unfold waysOf
          rw [List.take_succ, hf, List.flatMap_append]
          congr 1
          simp
        refine ⟨t, _, rfl, SqT.of ht2, rfl, _, _, rfl, _, _, rfl, rfl, wp1 (wp1 wp0), ?_⟩
        simp only [gName, wipe, List.map_cons, List.map_nil, List.set_cons_zero, List.set_cons_succ]
        refine ⟨_, rfl, B, rfl, ⟨_, SqL.of (s8 _ _ eB7)⟩, ?_⟩
        refine loop_it (walk_list (K := K) (a := B) (xs := xsB)) (fun k H3 => Same H7 H3 ∧ ∃ xs, H3 G = some (.lst xs) ∧ Its H3 xs (waysOf ((aheadOf (ents kvs) m).take j) (behindOf (ents kvs) m) ++ ((behindOf (ents kvs) m).take k).map fun b => (fx, b.1, fc + b.2)))
          ⟨s8, xs2, e2, by rw [List.take_zero, List.map_nil, List.append_nil]; exact p2⟩ (fun k H3 _ h => SqL.of (h.1 _ _ eB7)) ?_ ?_
        · rintro k x H3 H9 hk ⟨s9, xs3, e3, p3⟩ ⟨rfl, hxk⟩
          obtain ⟨⟨fy, fd⟩, hg, u, rfl, hu2⟩ := pB7.at_ _ _ hxk
          have kl : k < (behindOf (ents kvs) m).length := (List.getElem?_eq_some_iff.mp hg).1
          refine ⟨u, _, rfl, SqT.of (s9 _ _ hu2), rfl, _, _, rfl, _, _, rfl, rfl, rfl, ?_⟩
          simp only [gName, wipe, List.map_cons, List.map_nil, List.set_cons_zero, List.set_cons_succ]
          refine ⟨_, rfl, _, rfl, _, rfl, _, rfl, _, _, rfl, rfl, by show 3 ≤ sizeLine; decide, fun t nt => ?_⟩
          have sT := same_upd (o := .tup [.str fx, .str fy, .int (fc + fd)]) nt
          have e4 : ((behindOf (ents kvs) m).take (k + 1)).map (fun b => (fx, b.1, fc + b.2)) = ((behindOf (ents kvs) m).take k).map (fun b => (fx, b.1, fc + b.2)) ++ [(fx, fy, fc + fd)] := by
            rw [List.take_succ, hg, List.map_append]
            rfl
          refine ⟨xs3, sT _ _ e3, small6k ?_, fun c o e => ?_, _, upd_same, ?_⟩
          · rw [p3.len, List.length_append, ways_len, List.length_map, List.length_take, List.length_take]
            have h1 : min j (aheadOf (ents kvs) m).length ≤ 49 := by omega
            have h2 := Nat.mul_le_mul h1 bl
            omega
          · rw [upd_ne (ne_of_none e nG)]
            exact sT _ _ (s9 c o e)
          · rw [e4, ← List.append_assoc]
            refine (p3.samT fun t' ys e => ?_).snoc (by rw [upd_ne (ne_of (sT _ _ e3) upd_same (by intro z; cases z)).symm]; exact upd_same)
            rw [upd_ne (ne_of e e3 (by intro z; cases z))]
            exact sT _ _ e
        · rintro H3 ⟨s9, xs3, e3, p3⟩
          rw [pB7.len, List.take_length] at p3
          exact ⟨s9, xs3, e3, by rw [e1]; exact p3⟩
      rintro H8 ⟨s8, xsG, eG, pG⟩
      rw [pA7.len, List.take_length] at pG
      have lG : xsG.length ≤ 2401 := by
        rw [pG.len, ways_len]
        exact Nat.mul_le_mul al bl
      have lK : xsK.length ≤ 49 := by rw [pK7.len]; exact el
      refine ⟨D3, G, xsK, xsG, rfl, rfl, s8 _ _ eK7, eG, Nat.le_of_lt (small6k (by omega)), fun Pn nP => ?_⟩
      have sP := same_upd (o := .lst (xsK ++ xsG)) nP
      have over := over_of hT m
      refine ⟨Pn, xsK ++ xsG, ents kvs ++ waysOf (aheadOf (ents kvs) m) (behindOf (ents kvs) m), rfl, .inl upd_same, ((pK7.samT fun t ys e => s8 _ _ e).app pG).samT fun t ys e => sP _ _ e, by rw [List.length_append, ways_len]; have := Nat.mul_le_mul al bl; omega, fun fnL q2 kvs2 T2 H9 nq2 s9 eq9 hT9 tg9 hk9 => ?_, fun nf H9 s9 => qE (by
        obtain ⟨z, c, hm, hc⟩ := not_fine nf
        obtain ⟨n, wk⟩ := cl.bad over hm hc
        exact M.no_start wk hc) H9 ((s07.trans (s8.trans sP)).trans s9)⟩
      have s89 := (s8.trans sP).trans s9
      refine ⟨q2, kvs2, T2, m :: Z, _, _, _, _, _, _, _, _, _, rfl, ?_, s07.trans s89, s89 _ _ eL7, eq9, hT9, cl.next over fnL tg9, fun z hz => ?_⟩
      · cases e : H q2 with
        | none => rfl
        | some o =>
          have := ((s07.trans s8).trans sP) _ _ e
          rw [nq2] at this
          cases this
      · rw [et] at hz
        rcases List.mem_append.mp hz with hz | hz
        · exact List.mem_cons_of_mem _ (hZ z hz)
        · rw [List.mem_singleton.mp hz]
          exact List.mem_cons_self
    · rintro σ H' ⟨q1, kvs, T, Z, y2, y3, y4, y5, y6, y7, y8, y9, y10, rfl, nq1, s', eL, eq, hT, cl, hZ⟩
      rw [List.length_map, List.take_length] at hZ
      have hM := fun m x y c d h1 n1 h2 n2 => hZ m (hMid m x y c d h1 n1 h2 n2)
      exact ⟨_, rfl, q (cl.start (V := W) fn0 hM fun x y c hm => hW _ hm) q1 kvs T Z H' nq1 s' eq hT (fun p K0 => cl.cl K0) hM⟩
end
end Fv


set_option Elab.async false
set_option linter.all false
set_option maxRecDepth 100000
set_option maxHeartbeats 4000000
namespace Fv
open PySem PySem.Spec PyProof.Rows L2
def spChkSR (CE : Addr) : Sp := fun vs H Q E => ∃ (n a : Addr) (zs : List Str) (xs : List V) (L : List FaT), vs = [.ref n, .ref a] ∧ RowAt H n (zs.map V.str) ∧ zs.length ≤ 60 ∧ RowAt H a xs ∧ Its H xs L ∧
  ((∀ f ∈ L, SrcIn zs f.1 ∧ SrcIn zs f.2.1) → ∀ H', Same H H' → Q .non H') ∧
  ∀ u, FirstBad zs L u → ∀ (H1 : Hp) (dx : Addr), Same H H1 → H1 dx = none → E (.ref CE) (some dx) (upd H1 dx (.xd [("name", .str u)]))
section
variable {P : Program} {w : World} {K : PySem.W.Frag} {mg : Str → Option Value} {base : Heap} {C CE : Addr}
theorem ok_chksR {f : Addr} {fd : FuncData} (F : Fun K "_check_sources" "_check_sources" sChkSrc f fd) (O : Own1 P w K mg base "NoName" "name" CE) : FnOk P w K mg base (L2.CX P w) 3 f fd ["names", "facts"] (spChkSR CE) := by
  refine F.okX scCs (fun vs H Q E h => ?_) (fun cdv A outer s H vs Q E hr h => ?_)
  · obtain ⟨n, a, zs, xs, L, rfl, _⟩ := h
    rfl
  · obtain ⟨n, a, zs, xs, L, rfl, hn, hz, ha, hx, q, qE⟩ := h
    have hu := hu_of hr
    refine ⟨_, pss_cons (ps_setDc (i := 2) (own := [("name", 7)]) (g := gName 7) (tt := tYes) rfl scCs.nd rfl rfl (swD_true rfl rfl rfl (by decide +kernel)) (pi_rowA (pv 0)) (blkOk_by (N := nCs) (sc := defScope sChkSrc) (by decide +kernel))
        (fun _ _ _ _ _ => pg_name (i := 7) scCs.nd rfl (Or.inl rfl)) (fun _ _ _ _ _ => pts_nil) (fun _ _ _ _ _ => pv 7) (fun _ _ _ _ _ => pe_bl))
      (pss_one (ps_for (passes_of rfl) rfl (pi_rowA (pv 1)) (pg_tup (by rfl) (pgs_cons (pg_name (i := 3) scCs.nd rfl (.inl rfl)) (pgs_cons (pg_name (i := 4) scCs.nd rfl (.inl rfl)) (pgs_cons (pg_name (i := 5) scCs.nd rfl (.inl rfl)) pgs_nil))))
        (pss_one (ps_for (passes_of rfl) rfl (pi_tup (pe_tup (pa_cons (pv 3) (pa_cons (pv 4) pa_nil)))) (pg_name (i := 6) scCs.nd rfl (.inl rfl))
          (pss_one (ps_if (PW.pt (pw_and (pt_cmpR op_ne (pv 6) pe_str (nomark _)) (pw_and1 (pt_cmp (pc_dnotin hu (pv 6) (pv 2))))))
            (pss_one (ps_raise (W := fun cls d _ H => E cls d H) rfl (takes_of rfl rfl rfl rfl) (pmk1 O hr (by rfl) (pa_cons (pv 6) pa_nil)))) pss_nil)))))), ?_⟩
    refine ⟨_, rfl, n, _, rfl, hn, fun J G wk hG D hD => ?_⟩
    have stN : ∀ {H' : Hp}, Same H H' → G H' := fun {H'} s => hG H' (by
      obtain ⟨o, e⟩ := hn.ex
      rw [s _ _ e, e])
    refine dc_it wk (fun i H' => Same H H' ∧ H' D = some (.dK (dkOf (zs.take i)))) ⟨same_upd hD, upd_same⟩ (fun i H' _ h => stN h.1) ?_ ?_
    · rintro i x H' H2 hi ⟨s', e'⟩ ⟨rfl, hxi⟩
      obtain ⟨z, hzi, rfl⟩ : ∃ z, zs[i]? = some z ∧ x = .str z := by
        rw [List.getElem?_map] at hxi
        cases e : zs[i]? with
        | none => rw [e] at hxi; cases hxi
        | some z => rw [e] at hxi; cases hxi; exact ⟨z, rfl, rfl⟩
      have et : zs.take (i + 1) = zs.take i ++ [z] := by rw [List.take_succ, hzi]; rfl
      refine ⟨rfl, _, rfl, _, Sum.inr z, rfl, e', ?_, fun c o e => ?_, ?_⟩
      · exact Nat.lt_of_le_of_lt (dkOf_both _ _ rfl).1 (small60 (by rw [List.length_take]; omega))
      · rw [upd_ne (ne_of_none e hD)]
        exact s' c o e
      · rw [upd_same, et, dkOf_snoc]
    · rintro H1 ⟨s1, e1⟩
      rw [List.length_map, List.take_length] at e1
      have vz := (dkOf_both _ zs rfl).2
      dsimp only [gName]
      refine ⟨_, rfl, a, _, rfl, ha.same s1, fun J2 G2 wk2 hG2 => ?_⟩
      have stA : ∀ {H' : Hp}, Same H1 H' → G2 H' := fun {H'} s => hG2 H' (by
        obtain ⟨o, e⟩ := ha.ex
        rw [s _ _ (s1 _ _ e), s1 _ _ e])
      refine for_it wk2 (fun i σ H' => ∃ y3 y4 y5 y6 y7 : Option V, σ = [some (.ref n), some (.ref a), some (.ref D), y3, y4, y5, y6, y7] ∧ Same H1 H' ∧ ∀ (j : Nat) (g : FaT), j < i → L[j]? = some g → SrcIn zs g.1 ∧ SrcIn zs g.2.1)
        ⟨none, none, none, none, _, rfl, fun _ _ e => e, fun j g h => absurd h (Nat.not_lt_zero j)⟩ (fun i σ H' _ h => by obtain ⟨_, _, _, _, _, _, s', _⟩ := h; exact stA s') ?_ ?_
      · rintro i x σ H0 H' hi ⟨y3, y4, y5, y6, y7, rfl, s', hb⟩ ⟨rfl, hxi⟩
        obtain ⟨⟨fx, fy, fc⟩, hf, t, rfl, ht⟩ := hx.at_ i x hxi
        refine ⟨t, _, rfl, SqT.of (s' _ _ (s1 _ _ ht)), rfl, _, _, rfl, _, _, rfl, _, _, rfl, rfl, ?_⟩
        refine ⟨_, rfl, _, rfl, by show 2 ≤ sizeLine; decide, fun p np => ?_⟩
        have sp := same_upd (o := .tup [.str fx, .str fy]) np
        refine ⟨p, rfl, ⟨_, SqT.of upd_same⟩, ?_⟩
        refine for_tup (K := K) (a := p) (xs := [.str fx, .str fy]) (fun i σ H2 => (∃ y6 y7 : Option V, σ = [some (.ref n), some (.ref a), some (.ref D), some (.str fx), some (.str fy), some (.int fc), y6, y7] ∧ H2 = upd H' p (.tup [.str fx, .str fy])) ∧ (1 ≤ i → SrcIn zs fx) ∧ (2 ≤ i → SrcIn zs fy))
          ⟨⟨y6, y7, rfl, rfl⟩, fun h => absurd h (by decide), fun h => absurd h (by decide)⟩ (fun i σ H2 _ h => by obtain ⟨⟨_, _, _, rfl⟩, _⟩ := h; exact SqT.of upd_same) ?_ ?_
        · rintro j x σ H2 hxj ⟨⟨y6, y7, rfl, rfl⟩, hb1, hb2⟩
          obtain ⟨z, rfl, hz0, hz1⟩ : ∃ z, x = .str z ∧ (j = 0 → z = fx) ∧ (j ≠ 0 → j = 1 ∧ z = fy) := by
            match j, hxj with
            | 0, h => cases h; exact ⟨fx, rfl, fun _ => rfl, fun h => absurd rfl h⟩
            | 1, h => cases h; exact ⟨fy, rfl, (fun h => by cases h), fun _ => ⟨rfl, rfl⟩⟩
          have good : SrcIn zs z → (1 ≤ j + 1 → SrcIn zs fx) ∧ (2 ≤ j + 1 → SrcIn zs fy) := fun h => by
            by_cases e : j = 0
            · rw [← hz0 e]
              exact ⟨fun _ => h, fun h2 => absurd h2 (by omega)⟩
            · obtain ⟨e1, e2⟩ := hz1 e
              rw [← e2]
              exact ⟨fun _ => hb1 (by omega), fun _ => h⟩
          refine ⟨_, rfl, rfl, _, rfl, ite2 (fun e => ?_) (fun e => ?_)⟩
          · have nz : z ≠ "" := fun q => by simp [q] at e
            have sm := vz z
            refine ⟨_, rfl, _, rfl, D, _, rfl, DGet.k (k := Sum.inr z) (sp _ _ (s' _ _ e1)), ?_⟩
            rw [sm]
            by_cases hm : z ∈ zs
            · rw [decide_eq_true hm]
              exact ⟨_, rfl, iteF ⟨⟨_, _, rfl, rfl⟩, good (.inr hm)⟩⟩
            · rw [decide_eq_false hm]
              have bad : ¬ SrcIn zs z := fun h => h.elim nz hm
              refine ⟨_, rfl, iteT ⟨_, rfl, fun dx nd => ?_⟩⟩
              refine qE z ⟨i, (fx, fy, fc), hf, hb, ?_⟩ _ dx (s1.trans (s'.trans sp)) nd
              by_cases e : j = 0
              · exact .inl ⟨(hz0 e).symm, by rw [show (fx, fy, fc).1 = fx from rfl, ← hz0 e]; exact bad⟩
              · obtain ⟨e1, e2⟩ := hz1 e
                exact .inr ⟨hb1 (by omega), e2.symm, by rw [show (fx, fy, fc).2.1 = fy from rfl, ← e2]; exact bad⟩
          · have ez : z = "" := by
              by_cases q : z = ""
              · exact q
              · exact absurd (by simp [q]) e
            exact ⟨⟨_, _, rfl, rfl⟩, good (.inl ez)⟩
        · rintro σ H2 ⟨⟨y6, y7, rfl, rfl⟩, hb1, hb2⟩
          refine ⟨_, _, _, _, _, rfl, s'.trans sp, fun j g hj hg => ?_⟩
          by_cases e : j = i
          · rw [e, hf] at hg
            cases hg
            exact ⟨hb1 (by show 1 ≤ 2; decide), hb2 (by show 2 ≤ 2; decide)⟩
          · exact hb j g (by omega) hg
      · rintro σ H' ⟨y3, y4, y5, y6, y7, rfl, s', hb⟩
        refine q (fun f hf => ?_) H' (s1.trans s')
        obtain ⟨j, hj⟩ := List.getElem?_of_mem hf
        exact hb j f (by rw [hx.len]; exact (List.getElem?_eq_some_iff.mp hj).1) hj
end
end Fv


set_option Elab.async false
set_option linter.all false
set_option maxRecDepth 100000
set_option maxHeartbeats 4000000
namespace Fv
open PySem PySem.Spec PyProof.Rows L2
def SameX (x : Addr) (H H' : Hp) : Prop := ∀ c o, c ≠ x → H c = some o → H' c = some o
theorem SameX.trans {x : Addr} {H H' H2 : Hp} (h : SameX x H H') (k : SameX x H' H2) : SameX x H H2 := fun c o n e => k c o n (h c o n e)
theorem sameX {x : Addr} {H H' : Hp} (h : Same H H') : SameX x H H' := fun c o _ e => h c o e
/-- two arguments that are each as told -/
structure TwoV (H : Hp) (x : Addr) (v0 v1 : V) (zs : List Str) (L : List FaT) : Prop where
  at_ : ∃ n a xs, v0 = .ref n ∧ v1 = .ref a ∧ n ≠ x ∧ a ≠ x ∧ RowAt H n (zs.map V.str) ∧ RowAt H a xs ∧ Its H xs L
  nm : ∀ z ∈ zs, NmOk z
  nd : zs.Nodup
  zl : zs.length ≤ 6
  ll : L.length ≤ 60
def spMade (C CW CN CS : Addr) : Sp := fun vs H Q E => ∃ (x dx : Addr) (v0 v1 : V) (r0 r1 : Bool), vs = [.ref x, v0, v1] ∧ H x = some (.ins C dx []) ∧ ArgN C H x namesD v0 r0 ∧ ArgN C H x factsD v1 r1 ∧
  (∀ m : Nat, FirstNo [r0, r1] m → ∀ (H1 : Hp) (d : Addr), SameX x H H1 → H1 d = none → E (.ref CW) (some d) (upd H1 d (.xd [("place", .int m)]))) ∧
  ([r0, r1].all id = true → ∃ (zs : List Str) (L : List FaT), TwoV H x v0 v1 zs L ∧
    (∀ u, FirstBad zs L u → ∀ (H1 : Hp) (d : Addr), SameX x H H1 → H1 d = none → E (.ref CN) (some d) (upd H1 d (.xd [("name", .str u)]))) ∧
    ((∀ f ∈ L, SrcIn zs f.1 ∧ SrcIn zs f.2.1) → (¬ ∃ p, M.Keeps L p) → ∀ H1, SameX x H H1 → E (.ref CS) none H1) ∧
    ((∀ f ∈ L, SrcIn zs f.1 ∧ SrcIn zs f.2.1) → (∃ p, M.Keeps L p) → ∀ H' ys (T : M.Tb Str) Z m, H m = none → ys.Perm zs → sortedS ys = true → FacAtN C H' x m ys T → (∀ p, M.Keeps L p → M.Cl L p Z T) → (∀ m x y c d, (x, m, c) ∈ L → x ≠ m → (m, y, d) ∈ L → m ≠ y → m ∈ Z) → SameX x H H' → Q .non H'))
section
variable {P : Program} {w : World} {K : PySem.W.Frag} {mg : Str → Option Value} {base : Heap} {C : Addr}
theorem no_arefacts {f fR fP : Addr} {fd fdR fdP : FuncData} (F : Fun K "_are_facts" "_are_facts" sAreFacts f fd)
    (GR : FnOk P w K mg base CX0 1 fR fdR ["thing"] (spNo true)) (bR : Binds K fdR ["thing"] []) (mR : mg "is_row" = some (.ref fR)) (kR : PySem.W.keepIn K (.ref fR) = true)
    (GP : FnOk P w K mg base CX0 3 fP fdP ["thing"] (spX C factD)) (bP : Binds K fdP ["thing"] []) (mP : mg "_is_fact" = some (.ref fP)) (kP : PySem.W.keepIn K (.ref fP) = true)
    (ma : mg "all" = none) : FnOk P w K mg base CX0 4 f fd ["thing"] (spNo false) := by
  refine F.ok scAf (fun vs H Q E h => ?_) (fun cdv A outer s H vs Q E hr h => ?_)
  · obtain ⟨b, v, rfl, _⟩ := h
    rfl
  · obtain ⟨b, v, rfl, hv, hb, q⟩ := h
    have hr1 : Room 1 _ := hr.mono (by decide)
    refine ⟨_, pss_one (ps_ret (pe_and (pe_call GR hr1 (by rfl) mR kR bR .nil pass0 (pa_cons (pv 0) pa_nil))
      (pe_one (pe_callB (cr_all rfl) (by rfl) ma (by decide +kernel) (pa_cons
        (pe_lc (own := [("item", 1)]) (g := gName 1) (tt := tYes) rfl scAf.nd (pi_list (pv 0)) (blkOk_by (N := ["thing", "item"]) (sc := defScope sAreFacts) (by decide +kernel))
        (fun _ _ _ _ _ => pg_name (i := 1) scAf.nd rfl (Or.inl rfl)) (fun _ _ _ _ _ => pts_nil) (fun _ _ _ _ _ => pe_call GP hr (by rfl) mP kP bP .nil pass0 (pa_cons (pv 1) pa_nil))) pa_nil))))), ?_⟩
    refine ⟨_, rfl, b, v, rfl, hv, hb, fun H1 s1 => ⟨_, rfl, iteT ?_⟩⟩
    obtain ⟨a, n, rfl, ea, hn⟩ := hv.same s1
    refine ⟨_, rfl, a, rfl, ⟨_, SqL.of ea⟩, fun D hD => ?_⟩
    refine lc_list (K := K) (a := a) (xs := List.replicate (n + 1) V.non) (fun i H' => Same H1 H' ∧ H' D = some (.lst (List.replicate i (V.bl false)))) ⟨same_upd hD, upd_same⟩ (fun i H' _ h => SqL.of (h.1 _ _ ea)) ?_ ?_
    · rintro i x H' hxi ⟨s', e'⟩
      have hi : i < n + 1 := by
        have := (List.getElem?_eq_some_iff.mp hxi).1
        rwa [List.length_replicate] at this
      obtain rfl := take_rep hxi
      refine ⟨rfl, _, rfl, b, .non, .none, rfl, .non, True.intro, there (s1.trans s') hb, fun H3 s3 => ⟨_, s3 _ _ e', ?_, fun c o e => ?_, ?_⟩⟩
      · rw [List.length_replicate]
        have : 9001 < sizeLine := by decide
        omega
      · rw [upd_ne (ne_of_none e hD)]
        exact s3 _ _ (s' c o e)
      · rw [upd_same, List.replicate_succ']
        rfl
    · rintro H2 ⟨s2, e2⟩
      rw [List.length_replicate] at e2
      refine ⟨D, List.replicate (n + 1) false, rfl, SqL.of (by rw [List.map_replicate]; exact e2), ?_⟩
      rw [show (List.replicate (n + 1) false).all id = false from rfl]
      exact q H2 (s1.trans s2)

theorem ok_made {f fC fM fA fS fD CW CN CS : Addr} {fd fdC fdM fdA fdS fdD : FuncData} {dvs : List V} (F : FunD K "__init__" "Facts.__init__" (defArgs sInit) (defBody sInit) (defScope sInit) dvs [] f fd) (T : FacC K C)
    (GC : FnOk P w K mg base (L2.CX P w) 3 fC fdC ["rights"] (spChkA CW)) (bC : Binds K fdC ["rights"] []) (mC : mg "check_arguments" = some (.ref fC)) (kC : PySem.W.keepIn K (.ref fC) = true)
    (GM : FnOk P w K mg base CX0 2 fM fdM ["thing"] (spN C namesD)) (bM : Binds K fdM ["thing"] []) (mM : mg "are_names" = some (.ref fM)) (kM : PySem.W.keepIn K (.ref fM) = true)
    (GA : FnOk P w K mg base CX0 4 fA fdA ["thing"] (spN C factsD)) (bA : Binds K fdA ["thing"] []) (mA : mg "_are_facts" = some (.ref fA)) (kA : PySem.W.keepIn K (.ref fA) = true)
    (GS : FnOk P w K mg base (L2.CX P w) 3 fS fdS ["names", "facts"] (spChkSR CN)) (bS : Binds K fdS ["names", "facts"] []) (mS : mg "_check_sources" = some (.ref fS)) (kS : PySem.W.keepIn K (.ref fS) = true)
    (GD : FnOk P w K mg base (L2.CX P w) 2 fD fdD ["facts"] (spClosedA CS)) (bD : Binds K fdD ["facts"] []) (mD : mg "_closed" = some (.ref fD)) (kD : PySem.W.keepIn K (.ref fD) = true)
    (mo : mg "sorted" = none) : FnOk P w K mg base (L2.CX P w) 5 f fd ["self", "names", "facts"] (spMade C CW CN CS) := by
  refine F.ok scIni (fun vs H Q E h => ?_) (fun cdv A outer s H vs Q E hr h => ?_)
  · obtain ⟨x, dx, v0, v1, _, _, rfl, _⟩ := h
    rfl
  · obtain ⟨x, dx, v0, v1, r0, r1, rfl, hx, a0, a1, qW, qV⟩ := h
    have hr2 : Room 2 _ := hr.mono (by decide)
    have hr3 : Room 3 _ := hr.mono (by decide)
    refine ⟨_, pss_cons (ps_expr (pe_call GC hr3 (by rfl) mC kC bC .nil (passes_call (W := fun cls d _ H => E cls d H) (takes_of rfl rfl rfl rfl) (fun _ _ _ _ h => h)) (pa_cons (pe_lst (pa_cons (pe_call GM hr2 (by rfl) mM kM bM .nil pass0 (pa_cons (pv 1) pa_nil)) (pa_cons (pe_call GA hr (by rfl) mA kA bA .nil pass0 (pa_cons (pv 2) pa_nil)) pa_nil))) pa_nil)))
      (pss_cons (ps_expr (pe_call GS hr3 (by rfl) mS kS bS .nil (passes_call (W := fun cls d _ H => E cls d H) (takes_of rfl rfl rfl rfl) (fun _ _ _ _ h => h)) (pa_cons (pv 1) (pa_cons (pv 2) pa_nil))))
      (pss_cons (ps_fld (pv 0) (pe_callB (r := rSortB K) call_sortB (by rfl) mo (by decide +kernel) (pa_cons (pv 1) pa_nil)) rfl)
      (pss_one (ps_fld (pv 0) (pe_call GD hr2 (by rfl) mD kD bD .nil (passes_call (W := fun cls d _ H => E cls d H) (takes_of rfl rfl rfl rfl) (fun _ _ _ _ h => h)) (pa_cons (pv 2) pa_nil)) rfl)))), ?_⟩
    have hxo : ∃ o, H x = some o := ⟨_, hx⟩
    refine ⟨_, rfl, x, v0, r0, rfl, a0, hxo, fun H1 s1 => ?_⟩
    refine ⟨_, rfl, x, v1, r1, rfl, a1.same s1, there s1 hxo, fun H2 s2 => ⟨by show 2 ≤ sizeLine; decide, fun pp np => ?_⟩⟩
    have s02 := s1.trans s2
    have s3 := same_upd (o := .lst ([r0, r1].map V.bl)) np
    have s03 := s02.trans s3
    refine ⟨pp, [r0, r1], rfl, upd_same, fun hall H4 s4 => ?_, fun m hm H7 d s7 nd => qW m hm H7 d (sameX (s03.trans s7)) nd⟩
    obtain ⟨zs, L, ⟨⟨n, a, xs, rfl, rfl, ne, ae, hn, ha, hi⟩, hz, nd, zl, ll⟩, qN, qS, qO⟩ := qV hall
    have hb : ∀ ys, H x ≠ some (.tup ys) := fun ys z => by rw [hx] at z; cases z
    have s04 := s03.trans s4
    refine ⟨_, rfl, _, rfl, n, a, zs, xs, L, rfl, hn.same s04, by omega, ha.same s04, hi.same s04, fun hs H5 s5 => ?_, fun u hu H5 d s5 nd => qN u hu H5 d (sameX (s04.trans s5)) nd⟩
    have s05 := s04.trans s5
    refine ⟨_, rfl, n, zs, rfl, (hn.same s05).imp SqL.of SqT.of, by omega, fun ys r perm srt nr wr => ?_⟩
    have s6 := same_upd (o := .lst (ys.map V.str)) nr
    have s06 := s05.trans s6
    refine ⟨_, rfl, x, C, dx, _, rfl, s06 _ _ hx, T.cl, T.n1, by decide, ?_⟩
    have rx : r ≠ x := fun z => by rw [z, s05 _ _ hx] at nr; cases nr
    obtain ⟨H7, eH7⟩ : ∃ H7, H7 = upd (upd H5 r (.lst (ys.map V.str))) x (.ins C dx (putF "_names" (.ref r) [])) := ⟨_, rfl⟩
    rw [← eH7]
    have hx7 : H7 x = some (.ins C dx (putF "_names" (.ref r) [])) := by rw [eH7]; exact upd_same
    have hr7 : H7 r = some (.lst (ys.map V.str)) := by rw [eH7, upd_ne rx]; exact upd_same
    have k07 : SameX x H H7 := fun c u n e => by
      rw [eH7, upd_ne n]
      exact s06 _ _ e
    clear eH7
    have hi7 : Its H7 xs L := hi.samT fun t us e => k07 _ _ (fun z => hb us (by rw [← z]; exact e)) e
    refine ⟨_, rfl, a, xs, L, "" :: zs, rfl, ha.imp (k07 _ _ ae) (k07 _ _ ae), hi7, by omega, fun f hf => ?_, by rw [List.length_cons]; omega, fun hp r2 kvs T2 Z H8 nr2 s8 e8 hT cl hM => ?_, fun np H8 s8 => qS hs np H8 (k07.trans (sameX s8))⟩
    · obtain ⟨h1, h2⟩ := hs f hf
      exact ⟨h1.elim (fun e => by rw [e]; exact List.mem_cons_self) (List.mem_cons_of_mem _), h2.elim (fun e => by rw [e]; exact List.mem_cons_self) (List.mem_cons_of_mem _)⟩
    have r2x : r2 ≠ x := fun z => by rw [z, hx7] at nr2; cases nr2
    refine ⟨_, rfl, x, C, dx, _, rfl, s8 _ _ hx7, T.cl, T.n2, by show 1 < 1000; decide, ?_⟩
    have rH : H r = none := by
      cases e : H r with
      | none => rfl
      | some o => rw [s05 _ _ e] at nr; cases nr
    refine qO hs hp _ ys T2 Z r rH perm srt ⟨dx, r2, kvs, by rw [upd_same, fac_made], ?_, by rw [perm.length_eq]; omega, ?_, hT⟩ cl hM fun c u n e => ?_
    · rw [upd_ne rx]
      exact s8 _ _ hr7
    · rw [upd_ne r2x]
      exact e8
    · rw [upd_ne n]
      exact s8 _ _ (k07 c u n e)
end
end Fv


set_option Elab.async false
set_option linter.all false
set_option maxRecDepth 100000
set_option maxHeartbeats 4000000
namespace Fv
open PySem PySem.Spec PyProof.Rows L2
mutual
theorem Dx.away {C : Addr} {H H' : Hp} {b x : Addr} (k : Same H H') (n : H x = none) : ∀ {v : V} {d : PyData}, Dx C H b v d → Dx C H' x v d
  | _, _, .non => .non
  | _, _, .bl x => .bl x
  | _, _, .int i => .int i
  | _, _, .str x => .str x
  | _, _, .obj e _ => .obj (k _ _ e) (ne_of_none e n)
  | _, _, .lst e _ h => .lst (k _ _ e) (ne_of_none e n) (DxAll.away k n h)
  | _, _, .tup e _ h => .tup (k _ _ e) (ne_of_none e n) (DxAll.away k n h)
  | _, _, .dct e _ => .dct (k _ _ e) (ne_of_none e n)
theorem DxAll.away {C : Addr} {H H' : Hp} {b x : Addr} (k : Same H H') (n : H x = none) : ∀ {v : List V} {d : List PyData}, DxAll C H b v d → DxAll C H' x v d
  | _, _, .nil => .nil
  | _, _, .cons h t => .cons (Dx.away k n h) (DxAll.away k n t)
end
mutual
theorem Dq.away {H H' : Hp} {b x : Addr} (k : Same H H') (n : H x = none) : ∀ {v : V} {d : PyData}, Dq H b v d → Dq H' x v d
  | _, _, .non => .non
  | _, _, .bl x => .bl x
  | _, _, .int i => .int i
  | _, _, .str x => .str x
  | _, _, .lst e _ m h => .lst (k _ _ e) (ne_of_none e n) m (DqAll.away k n h)
  | _, _, .tup e _ h => .tup (k _ _ e) (ne_of_none e n) (DqAll.away k n h)
  | _, _, .dct e _ h h' => .dct (k _ _ e) (ne_of_none e n) (DqAll.away k n h) (DqAll.away k n h')
theorem DqAll.away {H H' : Hp} {b x : Addr} (k : Same H H') (n : H x = none) : ∀ {v : List V} {d : List PyData}, DqAll H b v d → DqAll H' x v d
  | _, _, .nil => .nil
  | _, _, .cons h t => .cons (Dq.away k n h) (DqAll.away k n t)
end
theorem ArgN.away {C : Addr} {H H' : Hp} {b x : Addr} (k : Same H H') (n : H x = none) {g : PyData → Bool} {v : V} {r : Bool} (h : ArgN C H b g v r) : ArgN C H' x g v r := by
  rcases h with ⟨d, h1, h2, h3⟩ | ⟨h1, h2⟩
  · exact .inl ⟨d, h1.away k n, h2, h3⟩
  · exact .inr ⟨h1.same k, h2⟩
theorem dq_strs {H : Hp} {b : Addr} : ∀ zs : List Str, DqAll H b (zs.map V.str) (zs.map PyData.str)
  | [] => .nil
  | z :: zs => .cons (.str z) (dq_strs zs)
/-! ### C(..) in a try: its __init__ may raise -/
def tMakeS (C : Addr) (sp : Sp) (E : L2.St → XK) (t : TA) : TE := fun σ H Q => t σ H fun vs H1 => ∀ x dx, H1 x = none → H1 dx = none → dx ≠ x → x ≠ sysModules →
  sp (.ref x :: vs) (upd (upd H1 dx (.own x)) x (.ins C dx [])) (fun v H2 => v = .non ∧ Q (.ref x) H2) (E σ)
section
variable {X : Cx} {CX : CXT} {k : Nat} {f C : Addr} {fd : FuncData} {ps : List Str} {sp : Sp} {E : L2.St → XK} {x : Str} {p pos : Pos} {e : Expr} {es : List Expr} {t : TA}
theorem pe_makeS (M : Mk X.K C f) (F : FnOk X.prog X.w X.K X.mg X.base CX k f fd ps sp) (hr : Room (k + 1) X.A) (hg : Gl X x) (hm : X.mg x = some (.ref C)) (hb : Binds X.K fd ps []) (hx : ∀ σ, PassesAt CX X σ (E σ))
    (ha : PA X (e :: es) t) (hdb : (x == ("__debug__" : Str)) = false := by decide) (he : starEach (e :: es) X.env = (false, eval e X.env) :: starEach es X.env := by rfl) (hpl : (backTo pos (starEach es X.env)).any (·.1) = false := by rfl) :
    PE X (.Call (.Name x p) (e :: es) [] pos) (tMakeS C sp E t) := by
  refine ⟨fun pins s σ H Q I h => wpAny_Call_Name_kw (ld_glob I hg hm ?_ hdb)⟩
  refine PySem.W.callWith_K (h₀ := X.base) I.ok.mod.kin M.kp (thn (ha.run pos pins s σ H _ I h) fun us s1 ⟨vs, H1, I1, r, q⟩ => ⟨I1.kIn, ?_⟩) he hpl
  have hq := q (s1.heap.objs.size + 1) s1.heap.objs.size (I1.hok.fresh (Nat.le_succ _)) (I1.hok.fresh (Nat.le_refl _)) (Nat.ne_of_lt (Nat.lt_succ_self _)) (Nat.ne_of_gt (Nat.lt_succ_of_lt I1.big))
  have I2 := Inv.made (C := C) I1
  have r2 : Vals (V.ref (s1.heap.objs.size + 1) :: vs) (Value.ref (s1.heap.objs.size + 1) :: us) := .cons rfl r
  have hl : (Value.ref (s1.heap.objs.size + 1) :: us).length = ps.length := by rw [← r2.length]; exact F.len _ _ _ _ hq
  have bi := hb _ (Value.ref (s1.heap.objs.size + 1) :: us) I2.kIn (by rw [List.append_nil]; exact hl)
  rw [List.append_nil] at bi
  refine wpAny_call (make_map (f := f) I1.kIn M.makes M.init (beq_iff_eq.mp M.fn) (codeAny_mono (F.run _ X.stack _ _ ⟨Value.ref (s1.heap.objs.size + 1) :: us, []⟩ (Value.ref (s1.heap.objs.size + 1) :: us) _ _ (E σ) (hr.make C us []) (I2.env0.make C us []) bi r2 hq) fun res s' hq' => ?_))
  cases res with
  | error e => exact hx σ pins _ _ e s' I2 hq'
  | ok fl =>
    cases fl with
    | ret u =>
      obtain ⟨v, H', I3, rv, ev, q3⟩ := I2.after hq'
      subst ev
      exact ⟨rv, ⟨V.ref (s1.heap.objs.size + 1), H', I3, rfl, q3⟩⟩
    | next => exact False.elim hq'
    | brk => exact False.elim hq'
    | cont => exact False.elim hq'
end
theorem pe_imp {X : Cx} {e : Expr} {t t' : TE} (he : PE X e t) (hi : ∀ σ H Q, t' σ H Q → t σ H Q) : PE X e t' := ⟨fun pins s σ H Q I h => he.run pins s σ H Q I (hi σ H Q h)⟩
/-! ### in an except suite: isinstance(e, c), e.f, the class told by what is read -/
def rIsQ (K : PySem.W.Frag) (a : Addr) (cls : Value) (d : Option Addr) : List V → Hp → VK → Prop := fun xs H Q => ∃ (D : Addr) (c : V) (u : Value) (r : Bool), xs = [.ref a, c] ∧ cls = .ref D ∧ ((∃ (dd : Addr) (fs : List (Str × V)), d = some dd ∧ H dd = some (.xd fs)) ∨ d = none) ∧ ExcC K D ∧ ClsV c u ∧ PySem.W.kitOne K (.ref D) u = some r ∧ Q (.bl r) H
def tXfQ (K : PySem.W.Frag) (a : Addr) (cls : Value) (d : Option Addr) (n : Str) (te : TE) : TE := fun σ H Q => te σ H fun x H1 => x = .ref a ∧ ∃ (C dd : Addr) (fs : List (Str × V)) (v : V), cls = .ref C ∧ d = some dd ∧ H1 dd = some (.xd fs) ∧ XfC K C ∧ PySem.W.findIn K (.ref C) n = some none ∧ fs.lookup n = some v ∧ Q v H1
section
variable {X : Cx} {a : Addr} {oe : Obj} {cls : Value} {d : Option Addr}
theorem bears_q {H : Hp} {D dd : Addr} {fs : List (Str × V)} (hz : Zc cls d oe) (hf : ∃ vs, oe.data = .fields vs) (e1 : cls = .ref D) (e2 : d = some dd) (e3 : H dd = some (.xd fs)) : Bears H oe D (some (dd, fs)) := by
  obtain ⟨z1, z2⟩ := hz
  exact ⟨z1.trans e1, hf, z2.trans e2, e3⟩
theorem call_isQ (hp : (a, oe) ∈ X.pn) (hz : Zc cls d oe) (hf : ∃ vs, oe.data = .fields vs) : CallR X (.builtin "isinstance") (rIsQ X.K a cls d) := by
  intro pins s σ H xs us Q I r ⟨D, c, u, b, ex, e1, e23, C, k, e, q⟩
  rcases e23 with ⟨dd, fs, e2, e3⟩ | e2
  · exact call_isP hp pins s σ H xs us Q I r ⟨D, _, c, u, b, ex, bears_q hz hf e1 e2 e3, C, k, e, q⟩
  · obtain ⟨z1, z2⟩ := hz
    exact call_isP hp pins s σ H xs us Q I r ⟨D, none, c, u, b, ex, ⟨z1.trans e1, hf, z2.trans e2⟩, C, k, e, q⟩
theorem pe_xfQ {K : PySem.W.Frag} {e : Expr} {n : Str} {i : Nat} {pos : Pos} (hK : X.K = K) (hp : (a, oe) ∈ X.pn) (hz : Zc cls d oe) (hf : ∃ vs, oe.data = .fields vs) (he : PE X e (tVar i)) (hb : attributeBase e n X.env (eval e X.env) = eval e X.env := by rfl) : PE X (.Attribute e n pos) (tXfQ K a cls d n (tVar i)) :=
  hK ▸ pe_imp (pe_xfP (a := a) (oe := oe) hp he hb) fun σ H Q h => by
    obtain ⟨v, hv, ex, C, dd, fs, w, e1, e2, e3, r⟩ := h
    exact ⟨v, hv, ex, C, dd, fs, w, bears_q hz hf e1 e2 e3, r⟩
end

theorem xf_of {K : PySem.W.Frag} {C : Addr} (h : ExcC K C) : XfC K C := ⟨h.hg, h.hk, h.hs, h.hd⟩
structure Errs3 (K : PySem.W.Frag) (mg : Str → Option Value) (CW CN CS AE : Addr) : Prop where
  gA : mg "ApartError" = some (.ref AE)
  gW : mg "Wrong" = some (.ref CW)
  gN : mg "NoName" = some (.ref CN)
  gS : mg "NoStart" = some (.ref CS)
  eW : ExcC K CW
  eN : ExcC K CN
  eS : ExcC K CS
  nW : PySem.W.findIn K (.ref CW) "place" = some none
  nN : PySem.W.findIn K (.ref CN) "name" = some none
  mW : PySem.W.exmOne K (.ref CW) (.ref AE) = some true
  mN : PySem.W.exmOne K (.ref CN) (.ref AE) = some true
  mS : PySem.W.exmOne K (.ref CS) (.ref AE) = some true
  ww : PySem.W.kitOne K (.ref CW) (.ref CW) = some true
  nw : PySem.W.kitOne K (.ref CN) (.ref CW) = some false
  nn : PySem.W.kitOne K (.ref CN) (.ref CN) = some true
  sw : PySem.W.kitOne K (.ref CS) (.ref CW) = some false
  sn : PySem.W.kitOne K (.ref CS) (.ref CN) = some false
  ss : PySem.W.kitOne K (.ref CS) (.ref CS) = some true
/-- what comes of two arguments -/
def OutF (r0 r1 : Bool) (zs : List Str) (L : List FaT) (o : PyData) : Prop :=
  (r0 = false ∧ o = .tuple [.str "wrong", .int 0]) ∨ (r0 = true ∧ r1 = false ∧ o = .tuple [.str "wrong", .int 1]) ∨
  (r0 = true ∧ r1 = true ∧ ∃ u, FirstBad zs L u ∧ o = .tuple [.str "name", .str u]) ∨
  (r0 = true ∧ r1 = true ∧ (∀ f ∈ L, SrcIn zs f.1 ∧ SrcIn zs f.2.1) ∧ (¬ ∃ p, M.Keeps L p) ∧ o = .tuple [.str "start", .int 0]) ∨
  (r0 = true ∧ r1 = true ∧ (∀ f ∈ L, SrcIn zs f.1 ∧ SrcIn zs f.2.1) ∧ (∃ p, M.Keeps L p) ∧ ∃ ys : List Str, ys.Perm zs ∧ sortedS ys = true ∧ o = .tuple [.str "told", .list (ys.map .str)])
def spTold (C : Addr) : Sp := fun vs H Q _ => ∃ (b : Addr) (v0 v1 : V) (r0 r1 : Bool) (zs : List Str) (L : List FaT), vs = [v0, v1] ∧ (∃ o, H b = some o) ∧ ArgN C H b namesD v0 r0 ∧ ArgN C H b factsD v1 r1 ∧
  ([r0, r1].all id = true → (∃ n a xs, v0 = .ref n ∧ v1 = .ref a ∧ RowAt H n (zs.map V.str) ∧ RowAt H a xs ∧ Its H xs L) ∧ (∀ z ∈ zs, NmOk z) ∧ zs.Nodup ∧ zs.length ≤ 6 ∧ L.length ≤ 60) ∧
  ∀ H' t o, Same H H' → OutF r0 r1 zs L o → Dq H' b (.ref t) o → Q (.ref t) H'
abbrev sTold : Stmt := top 34
section
variable {P : Program} {w : World} {K : PySem.W.Frag} {mg : Str → Option Value} {base : Heap} {C : Addr}
abbrev nTo : List Str := ["_law_names_here", "_law_facts_here", "e"]
theorem scTo : FnScope nTo ["_law_names_here", "_law_facts_here"] (defScope sTold) := ⟨rfl, rfl, rfl, by decide +kernel, rfl, by decide +kernel, by decide +kernel⟩
theorem ok_told {f fI fn CW CN CS AE : Addr} {fd fdI fdn : FuncData} (F : Fun K "_law_told" "_law_told" sTold f fd) (T : FacC K C) (M : Mk K C fI) (gC : mg "Facts" = some (.ref C)) (E3 : Errs3 K mg CW CN CS AE)
    (GI : FnOk P w K mg base (L2.CX P w) 5 fI fdI ["self", "names", "facts"] (spMade C CW CN CS)) (bI : Binds K fdI ["self", "names", "facts"] [])
    (Mn : Meth K C "names" fn) (Gn : FnOk P w K mg base CX0 1 fn fdn ["self"] (spNamesM C)) (bn : Binds K fdn ["self"] [])
    (mq : mg "isinstance" = none) : FnOk P w K mg base CX0 7 f fd ["_law_names_here", "_law_facts_here"] (spTold C) := by
  refine F.ok scTo (fun vs H Q E h => ?_) (fun cdv A outer s H vs Q E hr h => ?_)
  · obtain ⟨b, v0, v1, r0, r1, zs, L, rfl, _⟩ := h
    rfl
  · obtain ⟨b, v0, v1, r0, r1, zs, L, rfl, hb, a0, a1, hV, q⟩ := h
    have hr1 : Room 1 _ := hr.mono (by decide)
    refine ⟨_, pss_cons (ps_try_as (i := 2) (Wout := fun _ _ _ _ => False) rfl rfl scTo.nd rfl rfl ⟨rfl, by decide, Or.inl E3.gA⟩ takes0
        (fun W pn xe tk _ => pss_one (ps_ret (pe_tup (pa_cons pe_str (pa_cons (by exact (pe_meth0 (by exact (pe_makeS M GI hr rfl gC bI (fun σ => passAt tk σ) (by exact (pa_cons (pv 0) (pa_cons (pv 1) pa_nil))))) T.cl Mn Gn hr1 bn .nil pass0)) pa_nil)))))
        (fun a oe cls d pn hz hf => pss_cons (ps_if (pt_val (pe_callB (id := "isinstance") (r := rIsQ K a cls d) (by exact (call_isQ List.mem_cons_self hz hf)) (by rfl) mq (by decide +kernel) (pa_cons (pv 2) (pa_cons (pe_glob (v := .ref CW) (by rfl) E3.gW rfl) pa_nil)))) (pss_one (ps_ret (pe_tup (pa_cons pe_str (pa_cons (by exact (pe_xfQ (K := K) (i := 2) rfl List.mem_cons_self hz hf (by exact (pv 2)))) pa_nil))))) pss_nil)
          (pss_cons (ps_if (pt_val (pe_callB (id := "isinstance") (r := rIsQ K a cls d) (by exact (call_isQ List.mem_cons_self hz hf)) (by rfl) mq (by decide +kernel) (pa_cons (pv 2) (pa_cons (pe_glob (v := .ref CN) (by rfl) E3.gN rfl) pa_nil)))) (pss_one (ps_ret (pe_tup (pa_cons pe_str (pa_cons (by exact (pe_xfQ (K := K) (i := 2) rfl List.mem_cons_self hz hf (by exact (pv 2)))) pa_nil))))) pss_nil)
          (pss_one (ps_ret (pe_ifExp (pt_val (pe_callB (id := "isinstance") (r := rIsQ K a cls d) (by exact (call_isQ List.mem_cons_self hz hf)) (by rfl) mq (by decide +kernel) (pa_cons (pv 2) (pa_cons (pe_glob (v := .ref CS) (by rfl) E3.gS rfl) pa_nil)))) (pe_tup (pa_cons pe_str (pa_cons pe_int pa_nil))) (pe_tup (pa_cons pe_str (pa_cons pe_int pa_nil)))))))))
      pss_dead, ?_⟩
    have Hx_ : ∀ {x dx : Addr}, H x = none → H dx = none → Same H (upd (upd H dx (.own x)) x (.ins C dx [])) := fun {x dx} nx ndx c o e => by
      rw [upd_ne (ne_of_none e nx), upd_ne (ne_of_none e ndx)]
      exact e
    refine ⟨_, rfl, _, rfl, ?_⟩
    intro x dx nx ndx nxd wx
    have s0 := Hx_ nx ndx
    have hx0 : (upd (upd H dx (.own x)) x (.ins C dx [])) x = some (.ins C dx []) := upd_same
    generalize upd (upd H dx (.own x)) x (.ins C dx []) = G at s0 hx0 ⊢
    have sG : ∀ {H1 : Hp}, SameX x G H1 → Same H H1 := fun {H1} sX c o e => sX c o (ne_of_none e nx) (s0 c o e)
    obtain ⟨ob, hbo⟩ := hb
    have fin : ∀ {H2 : Hp} {z : Str} {r : V} {e : PyData} {t : Addr}, Same H H2 → H2 t = none → Dq (upd H2 t (.tup [.str z, r])) b r e → OutF r0 r1 zs L (.tuple [.str z, e]) → Q (.ref t) (upd H2 t (.tup [.str z, r])) := fun {H2 z r e t} s2 nt hr ho =>
      q _ t _ (s2.trans (same_upd nt)) ho (.tup upd_same (ne_of_none (s2 _ _ hbo) nt).symm (.cons (.str z) (.cons hr .nil)))
    refine ⟨x, dx, v0, v1, r0, r1, rfl, hx0, a0.away s0 nx, a1.away s0 nx, fun m hm H1 d sX nd => ⟨true, E3.mW, fun _ a na => ?_, fun z => nomatch z⟩, fun hall => ?_⟩
    · refine ⟨_, rfl, CW, _, _, _, rfl, rfl, .inl ⟨d, _, rfl, upd_same⟩, E3.eW, .own _, E3.ww, _, rfl, iteT ?_⟩
      refine ⟨_, rfl, rfl, CW, d, _, _, rfl, rfl, upd_same, xf_of E3.eW, E3.nW, rfl, by show 2 ≤ sizeLine; decide, fun t nt => ?_⟩
      refine fin ((sG sX).trans (same_upd nd)) nt (.int m) ?_
      match m, hm with
      | 0, hm =>
        have e : r0 = false := Option.some.inj hm.1
        exact .inl ⟨e, rfl⟩
      | 1, hm =>
        have e : r1 = false := Option.some.inj hm.1
        have e0 : r0 = true := Option.some.inj (hm.2 0 (by decide))
        exact .inr (.inl ⟨e0, e, rfl⟩)
      | m + 2, hm =>
        have := hm.1
        simp at this
    obtain ⟨⟨n, a, xs, rfl, rfl, hn, ha, hi⟩, hz, nd, zl, ll⟩ := hV hall
    obtain ⟨rfl, rfl⟩ : r0 = true ∧ r1 = true := by
      cases r0 <;> cases r1 <;> first | exact ⟨rfl, rfl⟩ | cases hall
    have nex : n ≠ x := by
      obtain ⟨o, e⟩ := hn.ex
      exact ne_of_none e nx
    have aex : a ≠ x := by
      obtain ⟨o, e⟩ := ha.ex
      exact ne_of_none e nx
    refine ⟨zs, L, ⟨⟨n, a, xs, rfl, rfl, nex, aex, hn.same s0, ha.same s0, hi.same s0⟩, hz, nd, zl, ll⟩, fun u hu H1 d sX nd => ⟨true, E3.mN, fun _ a na => ?_, fun z => nomatch z⟩, fun hs np H1 sX => ⟨true, E3.mS, fun _ a na => ?_, fun z => nomatch z⟩, fun hs hp H' ys T2 Z m nm perm srt fa cl hM sX => ⟨rfl, ?_⟩⟩
    · refine ⟨_, rfl, CN, _, _, _, rfl, rfl, .inl ⟨d, _, rfl, upd_same⟩, E3.eN, .own _, E3.nw, _, rfl, iteF ?_⟩
      refine ⟨_, rfl, CN, _, _, _, rfl, rfl, .inl ⟨d, _, rfl, upd_same⟩, E3.eN, .own _, E3.nn, _, rfl, iteT ?_⟩
      refine ⟨_, rfl, rfl, CN, d, _, _, rfl, rfl, upd_same, xf_of E3.eN, E3.nN, rfl, by show 2 ≤ sizeLine; decide, fun t nt => ?_⟩
      exact fin ((sG sX).trans (same_upd nd)) nt (.str u) (.inr (.inr (.inl ⟨rfl, rfl, u, hu, rfl⟩)))
    · refine ⟨_, rfl, CS, _, _, _, rfl, rfl, .inr rfl, E3.eS, .own _, E3.sw, _, rfl, iteF ?_⟩
      refine ⟨_, rfl, CS, _, _, _, rfl, rfl, .inr rfl, E3.eS, .own _, E3.sn, _, rfl, iteF ?_⟩
      refine ⟨_, rfl, CS, _, _, _, rfl, rfl, .inr rfl, E3.eS, .own _, E3.ss, _, rfl, iteT ?_⟩
      refine ⟨by show 2 ≤ sizeLine; decide, fun t nt => ?_⟩
      exact fin (sG sX) nt (.int 0) (.inr (.inr (.inr (.inl ⟨rfl, rfl, hs, np, rfl⟩))))
    · obtain ⟨dx2, q0, kvs, h1, h4, h5, h6, h7⟩ := id fa
      refine ⟨x, dx2, _, rfl, h1, rfl, x, ys, T2, rfl, ⟨m, fa⟩, fun p np mp => ⟨by show 2 ≤ sizeLine; decide, fun t nt => ?_⟩⟩
      have sp := same_upd (o := .lst (ys.map V.str)) np
      refine fin ((sG sX).trans sp) nt ?_ (.inr (.inr (.inr (.inr ⟨rfl, rfl, hs, hp, ys, perm, srt, rfl⟩))))
      exact .lst ((same_upd nt) _ _ upd_same) (ne_of_none (sG sX _ _ hbo) np).symm mp (dq_strs ys)
end
end Fv


set_option Elab.async false
set_option linter.all false
set_option maxRecDepth 100000
set_option maxHeartbeats 2000000
namespace Fv
open PySem PySem.Spec PyProof.Rows L2
/-- a list against an empty one, whatever is in it -/
def rNil (g : Bool → Bool) (K : PySem.W.Frag) : R2 := fun x y H Q => ∃ (a b : Addr) (xs : List V), x = .ref a ∧ y = .ref b ∧ SqL K H a xs ∧ SqL K H b [] ∧ Q (.bl (g xs.isEmpty)) H
section
variable {X : Cx}
theorem op_neNil (hu : X.A.units + 64 < cLine) : OpR X (compareOp .NotEq) (rNil (fun b => !b) X.K) := by
  intro pins s σ H x y v u Q I rx ry h
  obtain ⟨a, b, xs, rfl, rfl, ha, hb, q⟩ := h
  cases rx
  cases ry
  obtain ⟨us, r1, p1, _⟩ := I.list ha
  obtain ⟨ws, r2, p2, _⟩ := I.list hb
  cases r2
  cases xs with
  | nil =>
    cases r1
    exact SeqAt.RcNeAt.lists (e := fun _ => true) p1.isList p2.isList rfl (by omega) (fun j h1 _ => absurd h1 (Nat.not_lt_zero j)) X.prog X.w _ _ ⟨.bl false, H, I, rfl, q⟩
  | cons x xs =>
    have n : (us.toArray.size != ([] : List Value).toArray.size) = true := by
      rw [List.size_toArray, ← r1.length]
      rfl
    exact SeqAt.RcNeAt.lists_lengths p1.isList p2.isList n (by omega) X.prog X.w _ _ ⟨.bl true, H, I, rfl, q⟩
theorem op_eqNil (hu : X.A.units + 64 < cLine) : OpR X (compareOp .Eq) (rNil (fun b => b) X.K) := by
  intro pins s σ H x y v u Q I rx ry h
  obtain ⟨a, b, xs, rfl, rfl, ha, hb, q⟩ := h
  cases rx
  cases ry
  obtain ⟨us, r1, p1, _⟩ := I.list ha
  obtain ⟨ws, r2, p2, _⟩ := I.list hb
  cases r2
  cases xs with
  | nil =>
    cases r1
    exact SeqAt.RcAt.lists (e := fun _ => true) p1.isList p2.isList rfl (by omega) (fun j h1 _ => absurd h1 (Nat.not_lt_zero j)) X.prog X.w _ _ ⟨.bl true, H, I, rfl, q⟩
  | cons x xs =>
    have n : (us.toArray.size != ([] : List Value).toArray.size) = true := by
      rw [List.size_toArray, ← r1.length]
      rfl
    exact SeqAt.RcAt.lists_lengths p1.isList p2.isList n (by omega) X.prog X.w _ _ ⟨.bl false, H, I, rfl, q⟩
end
end Fv


set_option Elab.async false
set_option linter.all false
set_option maxRecDepth 100000
set_option maxHeartbeats 2000000
/-! the law's own reading of names, sources, integers, rows, pairs -/
namespace Fv
open PySem PySem.Spec PyProof.Rows L2
abbrev sLName : Stmt := top 35
theorem filter_len_take {α : Type} (p : α → Bool) (l : List α) (i : Nat) : ((l.take i).filter p).length ≤ l.length := by
  have l1 := List.length_filter_le p (l.take i)
  have l2 : (l.take i).length ≤ l.length := by rw [List.length_take]; omega
  omega
theorem filter_take_snoc {α : Type} {p : α → Bool} {l : List α} {i : Nat} {x : α} (h : l[i]? = some x) : (l.take (i + 1)).filter p = (l.take i).filter p ++ (if p x = true then [x] else []) := by
  rw [List.take_add_one, h, List.filter_append]
  cases e : p x <;> simp [e]
theorem filter_none {α : Type} (p : α → Bool) (l : List α) : (l.filter fun x => !p x).isEmpty = l.all p := by
  induction l with
  | nil => rfl
  | cons x l ih =>
    cases e : p x with
    | true => simpa [e] using ih
    | false => simp [e]
theorem map_empty {α β : Type} (f : α → β) (l : List α) : (l.map f).isEmpty = l.isEmpty := by cases l <;> rfl
section
variable {P : Program} {w : World} {K : PySem.W.Frag} {mg : Str → Option Value} {base : Heap} {C : Addr}
theorem sd1 : FnScope ["_law_thing", "_law_sign"] ["_law_thing"] (defScope sLName) := ⟨rfl, rfl, rfl, by decide +kernel, rfl, by decide +kernel, by decide +kernel⟩
theorem ok_lname {f : Addr} {fd : FuncData} (T : KFn K C) (F : Fun K "_law_is_name" "_law_is_name" sLName f fd) (mq : mg "isinstance" = none) (ms : mg "str" = none) (ml : mg "len" = none) : FnOk P w K mg base CX0 1 f fd ["_law_thing"] (spX C nameD) := by
  refine F.ok sd1 (fun vs H Q E h => ?_) (fun cdv A outer s H vs Q E hr h => ?_)
  · obtain ⟨b, v, d, rfl, _⟩ := h
    rfl
  · obtain ⟨b, v, d, rfl, hd, hs, hb, q⟩ := h
    obtain ⟨t', I⟩ := hd.isa T
    refine ⟨_, pss_cons (ps_if (PW.pt (pw_or (pt_not (pt_val (pe_callB call_isi (by rfl) mq (by decide +kernel) (pa_cons (pv 0) (pa_cons (pe_bltn (v := .ty "str") (by rfl) ms boot_str rfl) pa_nil)))))
        (pw_or (pt_cmpR op_lt (pe_callB call_len_str (by rfl) ml PySem.boot_len (pa_cons (pv 0) pa_nil)) pe_int (nomark _)) (pw_or1 (pt_cmpR op_gt (pe_callB call_len_str (by rfl) ml PySem.boot_len (pa_cons (pv 0) pa_nil)) pe_int (nomark _))))))
        (pss_one (ps_ret pe_bl)) pss_nil)
      (pss_one (ps_ret (pe_cmpR (op_eqNil hr.units)
        (pe_lc (own := [("_law_sign", 1)]) (g := gName 1) rfl sd1.nd (pi_str (pv 0)) (blkOk_by (N := ["_law_thing", "_law_sign"]) (sc := defScope sLName) (by decide +kernel))
        (fun _ _ _ _ _ => pg_name (i := 1) sd1.nd rfl (Or.inl rfl)) (fun _ _ _ _ _ => pts_one (pt_cmpR op_notIn_sign (pv 1) pe_str (by rfl))) (fun _ _ _ _ _ => pv 1)) (pe_lst pa_nil) (nomark _)))), ?_⟩
    refine ⟨_, rfl, _, _, _, _, _, rfl, .ty "str", I.ty, I.s, _, rfl, ?_⟩
    cases h1 : isStrD d with
    | false =>
      rw [name_not h1] at q
      exact q H fun _ _ e => e
    | true =>
      obtain ⟨z, rfl, rfl⟩ := hd.str_of h1
      have hz : z.length ≤ sizeLine := small_line hs.1
      have e : nameD (.str z) = (decide (1 ≤ z.length) && decide (z.length ≤ 8) && z.cps.toList.all fun c => decide (c ∈ abc.cps.toList)) := rfl
      rw [e] at q
      refine iteF ⟨_, rfl, z, rfl, hz, _, _, rfl, rfl, _, rfl, ?_⟩
      by_cases a1 : (z.length : Int) < 1
      · rw [decide_eq_true a1]
        rw [show decide (1 ≤ z.length) = false from decide_eq_false (by omega)] at q
        exact q H fun _ _ e => e
      · rw [show decide (1 ≤ z.length) = true from decide_eq_true (by omega)] at q
        rw [decide_eq_false a1]
        refine iteF ⟨_, rfl, z, rfl, hz, _, _, rfl, rfl, _, rfl, ?_⟩
        by_cases a2 : (8 : Int) < (z.length : Int)
        · rw [show decide (z.length ≤ 8) = false from decide_eq_false (by omega)] at q
          rw [decide_eq_true a2]
          exact q H fun _ _ e => e
        · rw [show decide (z.length ≤ 8) = true from decide_eq_true (by omega)] at q
          rw [decide_eq_false a2]
          refine iteF ⟨_, rfl, z, rfl, fun D hD => ?_⟩
          refine lc_it walk_str (fun i H1 => Same H H1 ∧ H1 D = some (.lst (((z.cps.toList.take i).filter fun c => !decide (c ∈ abc.cps.toList)).map fun c => V.str ⟨#[c]⟩))) ⟨same_upd hD, upd_same⟩ (fun _ _ _ _ => True.intro) ?_ ?_
          · rintro i x H1 H2 hi ⟨s1, e1⟩ ⟨rfl, c, hc, rfl⟩
            have hc' : z.cps.toList[i]? = some c := by simpa using hc
            refine ⟨rfl, _, rfl, c, abc, rfl, rfl, _, rfl, ?_⟩
            have fs := filter_take_snoc (p := fun c => !decide (c ∈ abc.cps.toList)) hc'
            cases hm : decide (c ∈ abc.cps.toList) with
            | true =>
              refine iteF ⟨s1, ?_⟩
              rw [fs, hm]
              rw [e1]
              simp
            | false =>
              refine iteT ⟨_, rfl, _, e1, ?_, fun a o e => ?_, ?_⟩
              · rw [List.length_map]
                have l1 := filter_len_take (fun c => !decide (c ∈ abc.cps.toList)) z.cps.toList i
                have l3 : z.cps.toList.length = z.length := by simp [Str.length]
                have l4 : z.length ≤ 1000 := hs.1
                exact small1000 (by omega)
              · rw [upd_ne (ne_of_none e hD)]
                exact s1 a o e
              · rw [upd_same, fs, hm]
                simp
          · rintro H1 ⟨s1, e1⟩
            have ez : z.cps.size = z.cps.toList.length := by simp
            rw [ez, List.take_length] at e1
            refine ⟨Nat.zero_le _, fun p np => ?_⟩
            have w1 := same_upd (o := .lst []) np
            refine ⟨D, p, _, rfl, rfl, SqL.of (w1 _ _ e1), SqL.of upd_same, ?_⟩
            rw [map_empty, filter_none]
            exact q _ (s1.trans w1)
end
end Fv


set_option Elab.async false
set_option linter.all false
set_option maxRecDepth 100000
set_option maxHeartbeats 2000000
namespace Fv
open PySem PySem.Spec PyProof.Rows L2
theorem inV_strs (z : Str) (zs : List Str) : inV (.str z) (zs.map V.str) = decide (z ∈ zs) := by
  unfold inV
  rw [Bool.eq_iff_iff, List.any_eq_true, decide_eq_true_eq]
  constructor
  · rintro ⟨y, hy, e⟩
    obtain ⟨t, ht, rfl⟩ := List.mem_map.mp hy
    have : t = z := by simpa [eqV] using e
    exact this ▸ ht
  · intro h
    exact ⟨.str z, List.mem_map.mpr ⟨z, h, rfl⟩, by simp [eqV]⟩
theorem flat_strs (zs : List Str) : (zs.map V.str).all flatV = true := by
  rw [List.all_map]
  exact List.all_eq_true.mpr fun _ _ => rfl
theorem cut_to (xs : List V) (k : Nat) : cutV xs none (some (k : Int)) = xs.take k := by
  unfold cutV
  rw [HT.sIx_none, HT.sIx_nat]
  simp only [List.drop_zero, Nat.sub_zero]
  rw [List.take_eq_take_iff]
  omega
theorem cut_from (xs : List V) (k : Nat) : cutV xs (some (k : Int)) none = xs.drop k := by
  unfold cutV
  rw [HT.sIx_none, HT.sIx_nat]
  rw [List.take_of_length_le (by rw [List.length_drop]; omega)]
  by_cases h : k ≤ xs.length
  · rw [Nat.min_eq_left h]
  · rw [Nat.min_eq_right (by omega), List.drop_of_length_le (Nat.le_refl _), List.drop_of_length_le (by omega)]
/-- the k-th is there already ahead -/
def twice (zs : List Str) (k : Nat) : Bool := (zs[k]?).any fun z => decide (z ∈ zs.take k)
theorem twice_none (zs : List Str) : ((List.range zs.length).filter (twice zs)).isEmpty = decide zs.Nodup := by
  rw [Bool.eq_iff_iff, List.isEmpty_iff, decide_eq_true_eq, List.filter_eq_nil_iff]
  constructor
  · intro h
    refine List.pairwise_iff_getElem.mpr fun i j hi hj hij e => ?_
    refine h j (List.mem_range.mpr hj) ?_
    unfold twice
    rw [List.getElem?_eq_getElem hj]
    show decide (zs[j] ∈ zs.take j) = true
    rw [decide_eq_true_eq, ← e]
    exact List.mem_take_iff_getElem.mpr ⟨i, by omega, rfl⟩
  · intro h k hk e
    have hk' := List.mem_range.mp hk
    unfold twice at e
    rw [List.getElem?_eq_getElem hk'] at e
    have e' : zs[k] ∈ zs.take k := of_decide_eq_true e
    obtain ⟨i, hi, ei⟩ := List.mem_take_iff_getElem.mp e'
    exact List.pairwise_iff_getElem.mp h i k (by omega) hk' (by omega) ei
section
variable {P : Program} {w : World} {K : PySem.W.Frag} {mg : Str → Option Value} {base : Heap} {C : Addr}
end
end Fv


set_option Elab.async false
set_option linter.all false
set_option maxRecDepth 100000
set_option maxHeartbeats 4000000
namespace Fv
open PySem PySem.Spec PyProof.Rows L2
/-! ### the law's own reading of lists of names -/
abbrev sLNames : Stmt := top 36
abbrev nLn : List Str := ["_law_thing", "_law_good", "_law_one", "_law_k"]
theorem all_filter {α : Type} (p : α → Bool) (l : List α) : decide ((l.filter p).length = l.length) = l.all p := by
  induction l with
  | nil => rfl
  | cons x l ih =>
    cases e : p x with
    | true =>
      rw [List.filter_cons_of_pos e, List.all_cons, e, Bool.true_and, ← ih, List.length_cons, List.length_cons]
      congr 1
      exact propext ⟨fun h => by omega, fun h => by omega⟩
    | false =>
      rw [List.filter_cons_of_neg (by rw [e]; decide), List.all_cons, e, Bool.false_and]
      have := List.length_filter_le p l
      rw [List.length_cons]
      exact decide_eq_false (by omega)
/-- texts that the names of a row are -/
theorem good_strs {C : Addr} {H : Hp} {b : Addr} : ∀ {xs : List V} {ds : List PyData}, DxAll C H b xs ds → (∀ d ∈ ds, nameD d = true) → xs = (ds.map strS).map V.str
  | _, _, .nil, _ => rfl
  | _, _, .cons h t, n => by
    have hd := n _ List.mem_cons_self
    obtain ⟨z, rfl⟩ := name_str hd
    cases h
    rw [good_strs t fun d hd => n d (List.mem_cons_of_mem _ hd)]
    rfl
section
variable {P : Program} {w : World} {K : PySem.W.Frag} {mg : Str → Option Value} {base : Heap} {C : Addr}
theorem scLn : FnScope nLn ["_law_thing"] (defScope sLNames) := ⟨rfl, rfl, rfl, by decide +kernel, rfl, by decide +kernel, by decide +kernel⟩
theorem ok_lnames {f fN : Addr} {fd fdN : FuncData} (T : KFn K C) (F : Fun K "_law_is_names" "_law_is_names" sLNames f fd)
    (GN : FnOk P w K mg base CX0 1 fN fdN ["_law_thing"] (spX C nameD)) (bN : Binds K fdN ["_law_thing"] []) (mN : mg "_law_is_name" = some (.ref fN)) (kN : PySem.W.keepIn K (.ref fN) = true)
    (mq : mg "isinstance" = none) (mL : mg "list" = none) (mt : mg "tuple" = none) (ml : mg "len" = none) (mr : mg "range" = none) : FnOk P w K mg base CX0 2 f fd ["_law_thing"] (spX C namesD) := by
  refine F.ok scLn (fun vs H Q E h => ?_) (fun cdv A outer s H vs Q E hr h => ?_)
  · obtain ⟨b, v, d, rfl, _⟩ := h
    rfl
  · obtain ⟨b, v, d, rfl, hd, hs, hb, q⟩ := h
    obtain ⟨t', I⟩ := hd.isa T
    refine ⟨_, pss_cons (ps_if (PW.pt (pw_and (pt_not (pt_val (pe_callB call_isi (by rfl) mq (by decide +kernel) (pa_cons (pv 0) (pa_cons (pe_bltn (v := .ty "list") (by rfl) mL boot_list rfl) pa_nil))))) (pw_and1 (pt_not (pt_val (pe_callB call_isi (by rfl) mq (by decide +kernel) (pa_cons (pv 0) (pa_cons (pe_bltn (v := .ty "tuple") (by rfl) mt boot_tuple rfl) pa_nil))))))))
        (pss_one (ps_ret pe_bl)) pss_nil)
      (pss_cons (ps_set (i := 1) scLn.nd rfl (.inr rfl) (pe_lc (own := [("_law_one", 2)]) (g := gName 2) rfl scLn.nd (pi_row (pv 0)) (blkOk_by (N := nLn) (sc := defScope sLNames) (by decide +kernel))
          (fun _ _ _ _ _ => pg_name (i := 2) scLn.nd rfl (Or.inl rfl)) (fun _ _ _ _ _ => pts_one (pt_val (pe_call GN hr (by rfl) mN kN bN .nil pass0 (pa_cons (pv 2) pa_nil)))) (fun _ _ _ _ _ => pv 2)))
      (pss_one (ps_ret (pe_and (pe_cmpR op_eq (pe_callB call_len_seq (by rfl) ml PySem.boot_len (pa_cons (pv 1) pa_nil)) (pe_callB call_len_seq (by rfl) ml PySem.boot_len (pa_cons (pv 0) pa_nil)) (nomark _))
        (pe_one (pe_cmpR op_eq (pe_callB call_len_seq (by rfl) ml PySem.boot_len (pa_cons
          (pe_lc (own := [("_law_k", 3)]) (g := gName 3) rfl scLn.nd (pi_range1 (by rfl) mr (pa_cons (pe_callB call_len_seq (by rfl) ml PySem.boot_len (pa_cons (pv 1) pa_nil)) pa_nil)) (blkOk_by (N := nLn) (sc := defScope sLNames) (by decide +kernel))
            (fun _ _ _ _ _ => pg_name (i := 3) scLn.nd rfl (Or.inl rfl)) (fun _ _ _ _ _ => pts_one (pt_cmpR (r := rIn K false) op_in_seq (pe_ix (r := rIxL K) ix_list (pv 1) (pv 3) (fun _ _ => rfl)) (pe_slice (r := rSlL K) sl_list (pv 1) po_none (po_some (pv 3))) (by rfl))) (fun _ _ _ _ _ => pv 3)) pa_nil)) pe_int (nomark _))))))), ?_⟩
    refine ⟨_, rfl, _, _, _, _, _, rfl, .ty "list", I.ty, I.l, _, rfl, ?_⟩
    have e : namesD d = (rowD d && (itemsD d).all nameD && decide ((itemsD d).map strS).Nodup) := rfl
    rw [e] at q
    cases hrow : rowD d with
    | false =>
      rw [hrow] at q
      have h12 : isListD d = false ∧ isTupD d = false := by
        unfold rowD at hrow
        rw [Bool.or_eq_false_iff] at hrow
        exact hrow
      rw [h12.1]
      refine iteT ⟨_, rfl, _, _, _, _, _, rfl, .ty "tuple", I.ty, I.t, _, rfl, ?_⟩
      rw [h12.2]
      exact iteT (q H fun _ _ e => e)
    | true =>
    obtain ⟨a, xs, ds, rfl, hdd, hro, hx⟩ := hd.row_of (K := K) hrow
    rw [hrow, rows_items hdd, Bool.true_and] at q
    obtain ⟨hl, hok⟩ := rows_ok hdd hs
    have hlen := hx.len
    have rows : ∀ {H' : Hp}, Same H H' → (SqL K H' a xs ∨ SqT K H' a xs) := fun {H'} s => hro.imp (fun h => h.same s) fun h => h.same s
    cases h1 : isListD d
    case' true => refine iteF (iteF ?_)
    case' false =>
      have h2 : isTupD d = true := by
        unfold rowD at hrow
        rw [h1, Bool.false_or] at hrow
        exact hrow
      refine iteT ⟨_, rfl, _, _, _, _, _, rfl, .ty "tuple", I.ty, I.t, _, rfl, ?_⟩
      rw [h2]
      refine iteF ?_
    all_goals (
    refine ⟨_, rfl, a, xs, rfl, hro, fun J G wk hG D nD => ?_⟩
    refine lc_it wk (fun i H' => Same H H' ∧ H' D = some (.lst ((((ds.take i).filter nameD).map strS).map V.str))) ⟨same_upd nD, upd_same⟩ (fun i H' _ h => hG H' h.1) ?_ ?_
    · rintro i x H0 H' hi ⟨s', e'⟩ ⟨rfl, hxi⟩
      obtain ⟨dx, hdi, hdx⟩ := hx.get hxi
      refine ⟨rfl, _, rfl, b, x, dx, rfl, hdx.mono fun c o _ e => s' c o e, hok.mem dx (List.mem_of_getElem? hdi), there s' hb, fun H3 s3 => ⟨_, rfl, ?_⟩⟩
      have fs := filter_take_snoc (p := nameD) hdi
      have hil : i < ds.length := (List.getElem?_eq_some_iff.mp hdi).1
      cases hn : nameD dx with
      | false =>
        rw [hn, if_neg (by decide), List.append_nil] at fs
        refine iteF ⟨s'.trans s3, ?_⟩
        rw [fs]
        exact s3 _ _ e'
      | true =>
        obtain ⟨z, rfl⟩ := name_str hn
        obtain rfl : x = V.str z := by cases hdx; rfl
        rw [hn, if_pos rfl] at fs
        refine iteT ⟨_, rfl, _, s3 _ _ e', ?_, fun c o e => ?_, ?_⟩
        · rw [List.length_map, List.length_map]
          have := filter_len_take nameD ds i
          exact small60 (by omega)
        · rw [upd_ne (ne_of_none e nD)]
          exact s3 _ _ (s' c o e)
        · rw [upd_same, fs, List.map_append, List.map_append]
          rfl
    rintro H2 ⟨s2, e2⟩
    rw [hlen, List.take_length] at e2
    simp only [gName, List.set_cons_zero, List.set_cons_succ]
    have gl : ((ds.filter nameD).map strS).length ≤ 60 := by
      rw [List.length_map]
      have := List.length_filter_le nameD ds
      omega
    have ge : decide (V.int ((((ds.filter nameD).map strS).map V.str).length : Nat) = V.int (xs.length : Nat)) = ds.all nameD := by
      rw [← all_filter, List.length_map, List.length_map, hlen]
      exact int_len
    refine ⟨_, rfl, D, _, rfl, .inl (SqL.of e2), _, rfl, a, xs, rfl, rows s2, rfl, _, rfl, ?_⟩
    rw [ge]
    cases hall : ds.all nameD with
    | false =>
      rw [hall] at q
      exact iteF (q H2 s2)
    | true =>
    rw [hall, Bool.true_and] at q
    have ef : ds.filter nameD = ds := List.filter_eq_self.mpr fun d hd => List.all_eq_true.mp hall d hd
    rw [ef] at e2 gl
    generalize ds.map strS = zs at e2 gl q
    refine iteT ⟨_, rfl, D, _, rfl, .inl (SqL.of e2), _, rfl, by omega, by rw [List.length_map]; omega, fun D2 nD2 => ?_⟩
    refine lc_range (lo := 0) (n := ((((zs.map V.str).length : Nat) : Int)).toNat) (fun i H' => Same H2 H' ∧ H' D2 = some (.lst (((List.range i).filter (twice zs)).map fun k : Nat => V.int (k : Int)))) ⟨same_upd nD2, upd_same⟩ ?_ ?_
    · rintro i H' hi ⟨s', e'⟩
      have hi' : i < zs.length := by rw [List.length_map] at hi; omega
      have hzi := List.getElem?_eq_getElem hi'
      have hv : (zs.map V.str)[i]? = some (.str zs[i]) := by rw [List.getElem?_map, hzi]; rfl
      simp only [Int.zero_add]
      refine ⟨rfl, ⟨_, rfl, _, rfl, D, _, (i : Int), _, rfl, rfl, SqL.of (s' _ _ e2), atI_nat hv, ?_⟩⟩
      refine ⟨_, rfl, _, rfl, _, rfl, D, _, rfl, SqL.of (s' _ _ e2), fun p np => ?_⟩
      have w1 := same_upd (o := .lst (cutV (zs.map V.str) none (some (i : Int)))) np
      refine ⟨p, _, rfl, .inl (SqL.of upd_same), rfl, ?_, ?_⟩
      · rw [cut_to, ← List.map_take]
        exact flat_strs _
      have ei : inV (.str zs[i]) (cutV (zs.map V.str) none (some (i : Int))) = twice zs i := by
        rw [cut_to, ← List.map_take, inV_strs]
        unfold twice
        rw [hzi]
        rfl
      refine ⟨_, rfl, ?_⟩
      have er : (List.range (i + 1)).filter (twice zs) = (List.range i).filter (twice zs) ++ (if twice zs i = true then [i] else []) := by
        rw [List.range_succ, List.filter_append]
        cases h : twice zs i <;> simp [h]
      show (if inV (.str zs[i]) (cutV (zs.map V.str) none (some (i : Int))) = true then _ else _)
      rw [ei]
      cases ht : twice zs i with
      | false =>
        refine ⟨s'.trans w1, ?_⟩
        rw [w1 _ _ e', er, ht]
        simp
      | true =>
        refine ⟨_, rfl, _, w1 _ _ e', ?_, fun c o e => ?_, ?_⟩
        · rw [List.length_map]
          have := List.length_filter_le (twice zs) (List.range i)
          rw [List.length_range] at this
          exact small60 (by omega)
        · rw [upd_ne (ne_of_none e nD2)]
          exact w1 _ _ (s' c o e)
        · rw [upd_same, er, ht]
          simp
    rintro H3 ⟨s3, e3⟩
    rw [show ((((zs.map V.str).length : Nat) : Int)).toNat = zs.length from by rw [Int.toNat_natCast, List.length_map]] at e3
    have eq0 : decide (V.int ((((List.range zs.length).filter (twice zs)).map fun k : Nat => V.int (k : Int)).length : Nat) = V.int 0) = decide zs.Nodup := by
      rw [← twice_none, List.length_map, show V.int 0 = V.int ((0 : Nat) : Int) from rfl, int_len]
      cases (List.range zs.length).filter (twice zs) <;> rfl
    refine ⟨D2, _, rfl, .inl (SqL.of e3), rfl, ?_⟩
    rw [eq0]
    exact q H3 (s2.trans s3))
end
end Fv


set_option Elab.async false
set_option linter.all false
set_option maxRecDepth 100000
set_option maxHeartbeats 4000000
namespace Fv
open PySem PySem.Spec PyProof.Rows L2
/-! ### the law's own reading of facts -/
abbrev sLFact : Stmt := top 37
abbrev nIf : List Str := ["_law_thing", "_law_one"]
theorem src_or (d : PyData) : (!nameD d && !emptyD d) = !sourceD d := by
  show _ = !(nameD d || emptyD d)
  cases nameD d <;> rfl
section
variable {P : Program} {w : World} {K : PySem.W.Frag} {mg : Str → Option Value} {base : Heap} {C : Addr}
theorem scIfL : FnScope nIf ["_law_thing"] (defScope sLFact) := ⟨rfl, rfl, rfl, by decide +kernel, rfl, by decide +kernel, by decide +kernel⟩
theorem ok_lfact {f fN : Addr} {fd fdN : FuncData} (T : KFn K C) (F : Fun K "_law_is_fact" "_law_is_fact" sLFact f fd)
    (GN : FnOk P w K mg base CX0 1 fN fdN ["_law_thing"] (spX C nameD)) (bN : Binds K fdN ["_law_thing"] []) (mN : mg "_law_is_name" = some (.ref fN)) (kN : PySem.W.keepIn K (.ref fN) = true)
    (mq : mg "isinstance" = none) (mt : mg "tuple" = none) (ml : mg "len" = none) (mi : mg "int" = none) (mb : mg "bool" = none) (ms : mg "str" = none) : FnOk P w K mg base CX0 2 f fd ["_law_thing"] (spX C factD) := by
  refine F.ok scIfL (fun vs H Q E h => ?_) (fun cdv A outer s H vs Q E hr h => ?_)
  · obtain ⟨b, v, d, rfl, _⟩ := h
    rfl
  · obtain ⟨b, v, d, rfl, hd, hs, hb, q⟩ := h
    obtain ⟨t', I⟩ := hd.isa T
    refine ⟨_, pss_cons (ps_if (PW.pt (pw_or (pt_not (pt_val (pe_callB call_isi (by rfl) mq (by decide +kernel) (pa_cons (pv 0) (pa_cons (pe_bltn (v := .ty "tuple") (by rfl) mt boot_tuple rfl) pa_nil)))))
          (pw_or1 (pt_cmpR op_ne (pe_callB call_len_seq (by rfl) ml PySem.boot_len (pa_cons (pv 0) pa_nil)) pe_int (nomark _)))))
        (pss_one (ps_ret pe_bl)) pss_nil)
      (pss_cons (ps_if (PW.pt (pw_or (pt_not (pt_val (pe_callB call_isi (by rfl) mq (by decide +kernel) (pa_cons (pe_ix (r := rIxT K) ix_tup (pv 0) pe_int (fun _ _ => rfl)) (pa_cons (pe_bltn (v := .ty "int") (by rfl) mi boot_int rfl) pa_nil)))))
          (pw_or1 (pt_val (pe_callB call_isi (by rfl) mq (by decide +kernel) (pa_cons (pe_ix (r := rIxT K) ix_tup (pv 0) pe_int (fun _ _ => rfl)) (pa_cons (pe_bltn (v := .ty "bool") (by rfl) mb boot_bool rfl) pa_nil)))))))
        (pss_one (ps_ret pe_bl)) pss_nil)
      (pss_one (ps_ret (pe_cmpR (op_eqNil hr.units)
        (pe_lc (own := [("_law_one", 1)]) (g := gName 1) rfl scIfL.nd (pi_tup (pe_slice (r := rSlT K) sl_tup (pv 0) po_none (po_some pe_int))) (blkOk_by (N := nIf) (sc := defScope sLFact) (by decide +kernel))
          (fun _ _ _ _ _ => pg_name (i := 1) scIfL.nd rfl (Or.inl rfl))
          (fun _ _ _ _ _ => pts_one (PW.pt (pw_and (pt_not (pt_val (pe_call GN hr (by rfl) mN kN bN .nil pass0 (pa_cons (pv 1) pa_nil))))
            (pw_and1 (pt_not (PW.pt (pw_and (pt_val (pe_callB (r := rIsi K) call_isi (by rfl) mq (by decide +kernel) (pa_cons (pv 1) (pa_cons (pe_bltn (v := .ty "str") (by rfl) ms boot_str rfl) pa_nil)))) (pw_and1 (pt_cmpR op_eq (pv 1) pe_str (nomark _)))))))))) (fun _ _ _ _ _ => pv 1)) (pe_lst pa_nil) (nomark _))))), ?_⟩
    refine ⟨_, rfl, _, _, _, _, _, rfl, .ty "tuple", I.ty, I.t, _, rfl, ?_⟩
    cases h1 : isTupD d with
    | false =>
      rw [fact_not h1] at q
      exact q H fun _ _ e => e
    | true =>
    obtain ⟨a, xs, ds, rfl, rfl, e1, hx⟩ := hd.tup_of h1
    have hlen := hx.len
    refine iteF ⟨_, rfl, a, xs, rfl, .inr (SqT.of e1), rfl, _, rfl, ?_⟩
    by_cases n3 : xs.length = 3
    · rw [show (!decide (V.int ((xs.length : Nat) : Int) = V.int 3)) = false from by rw [show decide (V.int ((xs.length : Nat) : Int) = V.int 3) = decide (xs.length = 3) from int_len (m := 3), decide_eq_true n3]; rfl]
      obtain ⟨x1, x2, x3, rfl⟩ := three_of n3
      obtain ⟨d1, d2, d3, rfl⟩ : ∃ d1 d2 d3, ds = [d1, d2, d3] := by
        match ds, hlen with
        | [d1, d2, d3], _ => exact ⟨_, _, _, rfl⟩
      obtain ⟨g1, g2, g3⟩ : Dx C H b x1 d1 ∧ Dx C H b x2 d2 ∧ Dx C H b x3 d3 := by
        cases hx with
        | cons g1 t => cases t with
          | cons g2 t => cases t with
            | cons g3 t => exact ⟨g1, g2, g3⟩
      have okx : okD d1 ∧ okD d2 ∧ okD d3 ∧ True := hs.2
      obtain ⟨t3, I3⟩ := g3.isa T
      have ef : factD (.tuple [d1, d2, d3]) = (sourceD d1 && sourceD d2 && intD d3) := rfl
      rw [ef] at q
      refine iteF ⟨_, rfl, a, _, 2, _, rfl, rfl, SqT.of e1, rfl, _, _, _, _, _, rfl, .ty "int", I3.ty, I3.i, _, rfl, ?_⟩
      have ei : intD d3 = (isIntD d3 && !isBoolD d3) := rfl
      cases hi : isIntD d3 with
      | false =>
        rw [ei, hi, Bool.false_and, Bool.and_false] at q
        exact iteT (q H fun _ _ e => e)
      | true =>
      refine iteF ⟨_, rfl, a, _, 2, _, rfl, rfl, SqT.of e1, rfl, _, _, _, _, _, rfl, .ty "bool", I3.ty, I3.b, _, rfl, ?_⟩
      cases hbo : isBoolD d3 with
      | true =>
        rw [ei, hi, hbo, show (true && !true) = false from rfl, Bool.and_false] at q
        exact iteT (q H fun _ _ e => e)
      | false =>
      rw [ei, hi, hbo, show (true && !false) = true from rfl, Bool.and_true] at q
      refine iteF ?_
      refine ⟨_, rfl, _, rfl, a, _, rfl, SqT.of e1, (by show ¬ (HT.sIx 3 0 none = 0 ∧ HT.sIx 3 3 (some 2) = 3); decide), fun p np => ?_⟩
      rw [show cutV [x1, x2, x3] none (some (2 : Int)) = [x1, x2] from cut_to [x1, x2, x3] 2]
      have w1 := same_upd (o := .tup [x1, x2]) np
      have ep : (upd H p (.tup [x1, x2])) p = some (.tup [x1, x2]) := upd_same
      generalize upd H p (.tup [x1, x2]) = H1 at w1 ep ⊢
      refine ⟨p, rfl, ⟨_, SqT.of ep⟩, fun D nD => ?_⟩
      have emp : ∀ d : PyData, isStrD d = false → emptyD d = false := fun d h => by cases d <;> first | rfl | cases h
      refine lc_tup (K := K) (a := p) (xs := [x1, x2]) (fun i H' => Same H1 H' ∧ ∃ gs : List V, H' D = some (.lst gs) ∧ gs.length ≤ i ∧ gs.isEmpty = ([d1, d2].take i).all sourceD) ⟨same_upd nD, [], upd_same, Nat.le_refl 0, rfl⟩ (fun i H' _ h => SqT.of (h.1 _ _ ep)) ?_ ?_
      · rintro i x H' hxi ⟨s', gs, e', gl, ge⟩
        obtain ⟨dx, hdi, hdx, okd⟩ : ∃ dx, [d1, d2][i]? = some dx ∧ Dx C H b x dx ∧ okD dx := by
          match i, hxi with
          | 0, h => cases h; exact ⟨d1, rfl, g1, okx.1⟩
          | 1, h => cases h; exact ⟨d2, rfl, g2, okx.2.1⟩
        have s1 := w1.trans s'
        have hi2 : i < 2 := (List.getElem?_eq_some_iff.mp hdi).1
        have tk : ([d1, d2].take (i + 1)).all sourceD = (([d1, d2].take i).all sourceD && sourceD dx) := by
          rw [List.take_add_one, hdi, List.all_append]
          show (_ && (sourceD dx && true)) = _
          rw [Bool.and_true]
        have sx : sourceD dx = (nameD dx || emptyD dx) := rfl
        have keep : sourceD dx = true → ∀ H3, Same H' H3 → Same H1 H3 ∧ ∃ gs : List V, H3 D = some (.lst gs) ∧ gs.length ≤ i + 1 ∧ gs.isEmpty = ([d1, d2].take (i + 1)).all sourceD := fun h H3 s3 => ⟨s'.trans s3, gs, s3 _ _ e', by omega, by rw [tk, h, Bool.and_true]; exact ge⟩
        have more : sourceD dx = false → ∀ H3, Same H' H3 → ∃ acc, H3 D = some (.lst acc) ∧ acc.length < sizeLine ∧ Same H1 (upd H3 D (.lst (acc ++ [x]))) ∧ ∃ gs : List V, (upd H3 D (.lst (acc ++ [x]))) D = some (.lst gs) ∧ gs.length ≤ i + 1 ∧ gs.isEmpty = ([d1, d2].take (i + 1)).all sourceD := fun h H3 s3 =>
          ⟨gs, s3 _ _ e', small60 (by omega), fun c o e => by rw [upd_ne (ne_of_none e nD)]; exact s3 _ _ (s' c o e), gs ++ [x], upd_same, by rw [List.length_append]; show _ + 1 ≤ _; omega, by
            rw [tk, h, Bool.and_false]
            cases gs <;> rfl⟩
        refine ⟨rfl, _, rfl, b, x, dx, rfl, hdx.mono fun c o _ e => s1 c o e, okd, there s1 hb, fun H3 s3 => ⟨_, rfl, ?_⟩⟩
        cases hn : nameD dx with
        | true => exact iteF (keep (by rw [sx, hn]; rfl) H3 s3)
        | false =>
          obtain ⟨tx, Ix⟩ := (hdx.mono (H' := H3) fun c o _ e => s3 _ _ (s1 c o e)).isa T
          refine iteT ⟨_, rfl, _, _, _, _, _, rfl, .ty "str", Ix.ty, Ix.s, _, rfl, ?_⟩
          cases hst : isStrD dx with
          | false => exact iteF (iteT ⟨_, rfl, more (by rw [sx, hn, emp dx hst]; rfl) H3 s3⟩)
          | true =>
            obtain ⟨z, rfl, rfl⟩ := hdx.str_of hst
            refine iteT ⟨_, rfl, rfl, _, rfl, ?_⟩
            have ez : decide (V.str z = V.str "") = emptyD (.str z) := by
              show _ = decide (z.length = 0)
              by_cases h0 : z.length = 0
              · have hz : z = "" := by
                  obtain ⟨⟨l⟩⟩ := z
                  have : l = [] := List.eq_nil_of_length_eq_zero h0
                  subst this
                  decide +kernel
                rw [decide_eq_true h0, hz]
                decide +kernel
              · rw [decide_eq_false h0]
                refine decide_eq_false fun h => h0 ?_
                rw [V.str.inj h]
                decide +kernel
            rw [ez]
            cases hem : emptyD (.str z) with
            | true => exact iteF (keep (by rw [sx, hn, hem]; rfl) H3 s3)
            | false => exact iteT ⟨_, rfl, more (by rw [sx, hn, hem]; rfl) H3 s3⟩
      rintro H2 ⟨s2, gs, e2, gl, ge⟩
      refine ⟨Nat.zero_le _, fun p2 np2 => ?_⟩
      have w2 := same_upd (o := .lst []) np2
      refine ⟨D, p2, gs, rfl, rfl, SqL.of (w2 _ _ e2), SqL.of upd_same, ?_⟩
      rw [ge]
      have := q _ ((w1.trans s2).trans w2)
      simpa [List.take] using this
    · rw [fact_len (by omega)] at q
      rw [show (!decide (V.int ((xs.length : Nat) : Int) = V.int 3)) = true from by rw [show decide (V.int ((xs.length : Nat) : Int) = V.int 3) = decide (xs.length = 3) from int_len (m := 3), decide_eq_false n3]; rfl]
      exact q H fun _ _ e => e
end
end Fv


set_option Elab.async false
set_option linter.all false
set_option maxRecDepth 100000
set_option maxHeartbeats 4000000
namespace Fv
open PySem PySem.Spec PyProof.Rows L2
def spLClosedR : Sp := fun vs H Q _ => ∃ (n a : Addr) (zs : List Str) (xs : List V) (L : List FaT), vs = [.ref n, .ref a] ∧ H n = some (.lst (zs.map V.str)) ∧ RowAt H a xs ∧ Its H xs L ∧ zs.length ≤ 6 ∧ (∀ f ∈ L, SrcIn zs f.1 ∧ SrcIn zs f.2.1) ∧
  ∀ (q : Addr) (kvs : List (List Key × V)) (H' : Hp), H q = none → Same H H' → H' q = some (.dT kvs) → TbL kvs (M.rounds (srcs zs) L (zs.length + 2) (M.diag (srcs zs))) → Q (.ref q) H'
section
variable {P : Program} {w : World} {K : PySem.W.Frag} {mg : Str → Option Value} {base : Heap} {C : Addr}
theorem ok_lclosedR {f : Addr} {fd : FuncData} (F : Fun K "_law_closed" "_law_closed" sLClosed f fd) (mr : mg "range" = none) (ml : mg "len" = none) (mL : mg "list" = none) : FnOk P w K mg base CX0 1 f fd ["_law_names_here", "_law_facts_here"] spLClosedR := by
  refine F.ok scLc (fun vs H Q E h => ?_) (fun cdv A outer s H vs Q E hr h => ?_)
  · obtain ⟨_, _, _, _, _, rfl, _⟩ := h
    rfl
  · obtain ⟨n, a, zs, xs, L, rfl, hn, ha, hI, zl, hin, q⟩ := h
    have hu := hu_of hr
    refine ⟨_, pss_cons (ps_set (i := 2) scLc.nd rfl (.inl rfl) pe_dnewT)
      (pss_cons (ps_for PassesOwn.never rfl (pi_list (pe_op op_cat (pe_lst (pa_cons pe_str pa_nil)) (pe_callTy call_list_of (by rfl) mL boot_list (pa_cons (pv 0) pa_nil)))) (pg_name (i := 3) scLc.nd rfl (.inl rfl))
        (pss_one (ps_dput hu (pv 2) (pe_tup (pa_cons (pv 3) (pa_cons (pv 3) pa_nil))) pe_int rfl)))
      (pss_cons (ps_for PassesOwn.never rfl (pi_range1 (by rfl) mr (pa_cons (pe_op op_add (pe_callB call_len_seq (by rfl) ml PySem.boot_len (pa_cons (pv 0) pa_nil)) pe_int) pa_nil)) (pg_name (i := 4) scLc.nd rfl (.inl rfl))
        (pss_one (ps_for PassesOwn.never rfl (pi_rowA (pv 1)) (pg_tup (by rfl) (pgs_cons (pg_name (i := 5) scLc.nd rfl (.inl rfl)) (pgs_cons (pg_name (i := 6) scLc.nd rfl (.inl rfl)) (pgs_cons (pg_name (i := 7) scLc.nd rfl (.inl rfl)) pgs_nil))))
          (pss_one (ps_for PassesOwn.never rfl (pi_list (pe_op op_cat (pe_lst (pa_cons pe_str pa_nil)) (pe_callTy call_list_of (by rfl) mL boot_list (pa_cons (pv 0) pa_nil)))) (pg_name (i := 3) scLc.nd rfl (.inl rfl))
            (pss_cons (ps_set (i := 8) scLc.nd rfl (.inl rfl) (pe_ifExp (pt_cmp (pc_din hu (pe_tup (pa_cons (pv 6) (pa_cons (pv 3) pa_nil))) (pv 2))) (pe_op op_add (pe_dget hu (pv 2) (pe_tup (pa_cons (pv 6) (pa_cons (pv 3) pa_nil))) (fun _ _ => rfl)) (pv 7)) pe_non))
            (pss_one (ps_if (PW.pt (pw_and (pt_cmpR op_notN (pv 8) pe_non (nomark _)) (pw_and1 (PW.pt (pw_or (pt_cmp (pc_dnotin hu (pe_tup (pa_cons (pv 5) (pa_cons (pv 3) pa_nil))) (pv 2))) (pw_or1 (pt_cmpR op_gt (pe_dget hu (pv 2) (pe_tup (pa_cons (pv 5) (pa_cons (pv 3) pa_nil))) (fun _ _ => rfl)) (pv 8) (nomark _))))))))
              (pss_one (ps_dput hu (pv 2) (pe_tup (pa_cons (pv 5) (pa_cons (pv 3) pa_nil))) (pv 8) rfl)) pss_nil))))))))
      (pss_one (ps_ret (pv 2))))), ?_⟩
    rw [show L2.start nLc [V.ref n, V.ref a] = [some (.ref n), some (.ref a), none, none, none, none, none, none, none] from rfl]
    intro q0 nq
    have s0 := same_upd (o := .dT []) nq
    have eq0 : (upd H q0 (.dT [])) q0 = some (.dT []) := upd_same
    generalize upd H q0 (.dT []) = H0 at s0 eq0 ⊢
    simp only [gName, List.set_cons_zero, List.set_cons_succ]
    have few : ∀ {kvs : List (List Key × V)} {T : M.Tb Str}, TbL kvs T → InV (srcs zs) T → kvs.length ≤ 49 := fun hT hV => by
      have h1 := hT.few (srcs zs) hV
      have h2 : (srcs zs).length ≤ 7 := by rw [List.length_cons]; omega
      have h3 := Nat.mul_le_mul h2 h2
      omega
    -- nothing, and the names: a new list
    refine ⟨by show 1 ≤ sizeLine; decide, fun l1 n1 => ?_⟩
    have s1 := same_upd (o := .lst [.str ("" : Str)]) n1
    refine ⟨_, rfl, n, _, rfl, .inl (SqL.of (s1 _ _ (s0 _ _ hn))), fun l2 n2 => ?_⟩
    have s2 := s1.trans (same_upd (o := .lst (zs.map V.str)) n2)
    have e1 : (upd (upd H0 l1 (.lst [.str ("" : Str)])) l2 (.lst (zs.map V.str))) l1 = some (.lst [.str ("" : Str)]) := by rw [upd_ne (ne_of_none upd_same n2)]; exact upd_same
    refine ⟨l1, l2, _, _, rfl, rfl, e1, upd_same, ?_, fun l3 n3 => ?_⟩
    · rw [List.length_map]
      exact small_line (by rw [show ([V.str ("" : Str)]).length = 1 from rfl]; omega)
    have s3 := s2.trans (same_upd (o := .lst ([.str ("" : Str)] ++ zs.map V.str)) n3)
    have e3 : (upd (upd (upd H0 l1 (.lst [.str ("" : Str)])) l2 (.lst (zs.map V.str))) l3 (.lst ([.str ("" : Str)] ++ zs.map V.str))) l3 = some (.lst ((srcs zs).map V.str)) := upd_same
    generalize upd (upd (upd H0 l1 (.lst [.str ("" : Str)])) l2 (.lst (zs.map V.str))) l3 (.lst ([.str ("" : Str)] ++ zs.map V.str)) = H3 at s3 e3 ⊢
    have eq3 := s3 _ _ eq0
    have s03 := s0.trans s3
    have l3q : l3 ≠ q0 := ne_of e3 eq3 (by intro z; cases z)
    refine ⟨l3, rfl, ⟨_, SqL.of e3⟩, ?_⟩
    refine for_list (K := K) (a := l3) (xs := (srcs zs).map V.str) (fun i σ H' => ∃ (y3 : Option V) (kvs : List (List Key × V)), σ = [some (.ref n), some (.ref a), some (.ref q0), y3, none, none, none, none, none] ∧ Same H H' ∧ H' l3 = some (.lst ((srcs zs).map V.str)) ∧ H' q0 = some (.dT kvs) ∧ TbL kvs (diagN (srcs zs) i))
      ⟨none, [], rfl, s03, e3, eq3, by rw [diagN_zero]; exact .nil⟩ (fun i σ H' _ h => by
        obtain ⟨_, _, _, _, e, _⟩ := h
        exact SqL.of e) ?_ ?_
    · rintro i x σ H' hxi ⟨y3, kvs, rfl, s', el, eq, hT⟩
      obtain ⟨u, hu, rfl⟩ : ∃ u, (srcs zs)[i]? = some u ∧ x = .str u := by
        rw [List.getElem?_map] at hxi
        cases e : (srcs zs)[i]? with
        | none => rw [e] at hxi; cases hxi
        | some z => rw [e] at hxi; cases hxi; exact ⟨z, rfl, rfl⟩
      have fw := few hT diagN_in
      simp only [gName, List.set_cons_zero, List.set_cons_succ]
      refine ⟨_, rfl, _, rfl, _, rfl, by show 2 ≤ sizeLine; decide, fun t nt => ?_⟩
      have sT := same_upd (o := .tup [.str u, .str u]) nt
      refine ⟨q0, _, rfl, DPut.t (k := kP u u) (sT _ _ eq) upd_same (small60 (by omega)), ?_⟩
      refine ⟨_, _, rfl, fun c o e => ?_, ?_, upd_same, ?_⟩
      · rw [upd_ne (ne_of_none e nq)]
        exact sT _ _ (s' c o e)
      · rw [upd_ne l3q]
        exact sT _ _ el
      · rw [diagN_succ hu]
        exact hT.put u u 0
    rintro σ H4 ⟨y3, kvs0, rfl, s4, el4, eq4, hT4⟩
    rw [List.length_map, diagN_all] at hT4
    refine ⟨_, rfl, n, _, rfl, .inl (SqL.of (s4 _ _ hn)), _, _, rfl, rfl, zs.length + 2, ?_, by omega, by omega, ?_⟩
    · rw [List.length_map]
    have dV : InV (srcs zs) (M.diag (srcs zs)) := by rw [← diagN_all]; exact diagN_in
    refine for_range (n := zs.length + 2) (fun i σ H' => ∃ (y3 y4 y5 y6 y7 y8 : Option V) (kvs : List (List Key × V)), σ = [some (.ref n), some (.ref a), some (.ref q0), y3, y4, y5, y6, y7, y8] ∧ Same H H' ∧ H' q0 = some (.dT kvs) ∧ TbL kvs (M.rounds (srcs zs) L i (M.diag (srcs zs))) ∧ InV (srcs zs) (M.rounds (srcs zs) L i (M.diag (srcs zs))))
      ⟨_, _, _, _, _, _, kvs0, rfl, s4, eq4, hT4, dV⟩ ?_ ?_
    · rintro i σ H' hi ⟨y3, y4, y5, y6, y7, y8, kvs, rfl, s', eq, hT, hV⟩
      simp only [gName, List.set_cons_zero, List.set_cons_succ]
      refine ⟨_, rfl, a, _, rfl, ha.same s', fun J G wk hG => ?_⟩
      have stA : ∀ {H2 : Hp}, Same H H2 → G H2 := fun {H2} s => hG H2 (by
        obtain ⟨o, e⟩ := ha.ex
        rw [s _ _ e, s' _ _ e])
      refine for_it wk (fun j σ H' => ∃ (y3 y4 y5 y6 y7 y8 : Option V) (kvs : List (List Key × V)), σ = [some (.ref n), some (.ref a), some (.ref q0), y3, y4, y5, y6, y7, y8] ∧ Same H H' ∧ H' q0 = some (.dT kvs) ∧ TbL kvs ((L.take j).foldl (M.pass (srcs zs)) (M.rounds (srcs zs) L i (M.diag (srcs zs)))) ∧ InV (srcs zs) ((L.take j).foldl (M.pass (srcs zs)) (M.rounds (srcs zs) L i (M.diag (srcs zs)))))
        ⟨_, _, _, _, _, _, kvs, rfl, s', eq, hT, hV⟩ (fun j σ H' _ h => by
          obtain ⟨_, _, _, _, _, _, _, _, s', _⟩ := h
          exact stA s') ?_ ?_
      · rintro j x σ H0' H1 hjx ⟨y3, y4, y5, y6, y7, y8, kvs, rfl, s1, eq1, hT1, hV1⟩ ⟨rfl, hxj⟩
        obtain ⟨⟨fx, fy, fc⟩, hf, t, rfl, ht⟩ := hI.at_ j x hxj
        obtain ⟨mx, my⟩ := hin _ (List.mem_of_getElem? hf)
        have mx := src_mem.mpr mx
        have my := src_mem.mpr my
        refine ⟨t, _, rfl, SqT.of (s1 _ _ ht), rfl, _, _, rfl, _, _, rfl, _, _, rfl, rfl, ?_⟩
        simp only [gName, List.set_cons_zero, List.set_cons_succ]
        refine ⟨by show 1 ≤ sizeLine; decide, fun l1 n1 => ?_⟩
        have t1 := same_upd (o := .lst [.str ("" : Str)]) n1
        refine ⟨_, rfl, n, _, rfl, .inl (SqL.of (t1 _ _ (s1 _ _ hn))), fun l2 n2 => ?_⟩
        have t2 := t1.trans (same_upd (o := .lst (zs.map V.str)) n2)
        have e1 : (upd (upd H1 l1 (.lst [.str ("" : Str)])) l2 (.lst (zs.map V.str))) l1 = some (.lst [.str ("" : Str)]) := by rw [upd_ne (ne_of_none upd_same n2)]; exact upd_same
        refine ⟨l1, l2, _, _, rfl, rfl, e1, upd_same, ?_, fun l3 n3 => ?_⟩
        · rw [List.length_map]
          exact small_line (by rw [show ([V.str ("" : Str)]).length = 1 from rfl]; omega)
        have t3 := t2.trans (same_upd (o := .lst ([.str ("" : Str)] ++ zs.map V.str)) n3)
        have e3 : (upd (upd (upd H1 l1 (.lst [.str ("" : Str)])) l2 (.lst (zs.map V.str))) l3 (.lst ([.str ("" : Str)] ++ zs.map V.str))) l3 = some (.lst ((srcs zs).map V.str)) := upd_same
        generalize upd (upd (upd H1 l1 (.lst [.str ("" : Str)])) l2 (.lst (zs.map V.str))) l3 (.lst ([.str ("" : Str)] ++ zs.map V.str)) = H5 at t3 e3 ⊢
        have eq5 := t3 _ _ eq1
        have s5 := s1.trans t3
        have l3q : l3 ≠ q0 := ne_of e3 eq5 (by intro z; cases z)
        refine ⟨l3, rfl, ⟨_, SqL.of e3⟩, ?_⟩
        have hstep := foldl_take (M.pass (srcs zs)) L (M.rounds (srcs zs) L i (M.diag (srcs zs))) hf
        rw [hstep]
        generalize (L.take j).foldl (M.pass (srcs zs)) (M.rounds (srcs zs) L i (M.diag (srcs zs))) = T1 at hT1 hV1 ⊢
        refine for_list (K := K) (a := l3) (xs := (srcs zs).map V.str) (fun k σ H' => ∃ (y3 y4 y8 : Option V) (kvs : List (List Key × V)), σ = [some (.ref n), some (.ref a), some (.ref q0), y3, y4, some (.str fx), some (.str fy), some (.int fc), y8] ∧ Same H H' ∧ H' l3 = some (.lst ((srcs zs).map V.str)) ∧ H' q0 = some (.dT kvs) ∧
            TbL kvs (((srcs zs).take k).foldl (fun T o => M.rx T fx fy fc o) T1) ∧ InV (srcs zs) (((srcs zs).take k).foldl (fun T o => M.rx T fx fy fc o) T1))
          ⟨_, _, _, kvs, rfl, s5, e3, eq5, hT1, hV1⟩ (fun k σ H' _ h => by
            obtain ⟨_, _, _, _, _, _, e, _⟩ := h
            exact SqL.of e) ?_ ?_
        · rintro k x σ H2 hxk ⟨y3, y4, y8, kvs, rfl, s2, el2, eq2, hT2, hV2⟩
          obtain ⟨u, hu, rfl⟩ : ∃ u, (srcs zs)[k]? = some u ∧ x = .str u := by
            rw [List.getElem?_map] at hxk
            cases e : (srcs zs)[k]? with
            | none => rw [e] at hxk; cases hxk
            | some z => rw [e] at hxk; cases hxk; exact ⟨z, rfl, rfl⟩
          have mu := List.mem_of_getElem? hu
          have hst2 := foldl_take (fun T o => M.rx T fx fy fc o) (srcs zs) T1 hu
          rw [hst2]
          generalize ((srcs zs).take k).foldl (fun T o => M.rx T fx fy fc o) T1 = T2 at hT2 hV2 ⊢
          have fw := few hT2 hV2
          simp only [gName, List.set_cons_zero, List.set_cons_succ]
          refine ⟨_, rfl, _, rfl, by show 2 ≤ sizeLine; decide, fun t2 nt2 => ?_⟩
          have sT := same_upd (o := .tup [.str fy, .str u]) nt2
          refine ⟨_, rfl, q0, _, rfl, DGet.t (k := kP fy u) (sT _ _ eq2) upd_same, ?_⟩
          rw [hT2.val]
          cases eb : T2 fy u with
          | none =>
            have er : M.rx T2 fx fy fc u = T2 := by unfold M.rx; rw [eb]
            rw [er]
            refine ⟨_, rfl, iteF ?_⟩
            simp only [gName, List.set_cons_zero, List.set_cons_succ]
            exact ⟨_, rfl, rfl, _, rfl, iteF ⟨_, _, _, kvs, rfl, s2.trans sT, sT _ _ el2, sT _ _ eq2, hT2, hV2⟩⟩
          | some b =>
            refine ⟨_, rfl, iteT ?_⟩
            have vb : valV kvs (kP fy u) = some (.int b) := by rw [hT2.val, eb]; rfl
            refine ⟨_, rfl, _, rfl, _, rfl, by show 2 ≤ sizeLine; decide, fun t3 nt3 => ?_⟩
            have sU := sT.trans (same_upd (o := .tup [.str fy, .str u]) nt3)
            refine ⟨q0, .int b, rfl, by have h := DGet.t (k := kP fy u) (sU _ _ eq2) upd_same; rw [vb] at h; exact h, ?_⟩
            refine ⟨_, rfl, _, _, rfl, rfl, ?_⟩
            simp only [gName, List.set_cons_zero, List.set_cons_succ]
            refine ⟨_, rfl, rfl, _, rfl, iteT ?_⟩
            refine ⟨_, rfl, _, rfl, by show 2 ≤ sizeLine; decide, fun t4 nt4 => ?_⟩
            have sV := sU.trans (same_upd (o := .tup [.str fx, .str u]) nt4)
            refine ⟨_, rfl, q0, _, rfl, DGet.t (k := kP fx u) (sV _ _ eq2) upd_same, ?_⟩
            rw [hT2.val]
            have put : ∀ {H' : Hp} {D : Ends}, Same H2 H' → M.rx T2 fx fy fc u = M.put T2 fx u (b + fc) →
                (∀ (kvs' : List (List Key × V)) (H'' : Hp), Same H H'' → H'' l3 = some (.lst ((srcs zs).map V.str)) → H'' q0 = some (.dT kvs') → TbL kvs' (M.rx T2 fx fy fc u) → InV (srcs zs) (M.rx T2 fx fy fc u) → D.nx [some (V.ref n), some (.ref a), some (.ref q0), some (.str u), y4, some (.str fx), some (.str fy), some (.int fc), some (.int (b + fc))] H'') →
                sDPut (tVar 2) (tTup (tCons (tVar 5) (tCons (tVar 3) tNil))) (tVar 8) D [some (V.ref n), some (.ref a), some (.ref q0), some (.str u), y4, some (.str fx), some (.str fy), some (.int fc), some (.int (b + fc))] H' := fun {H' D} s3 er kk => by
              rw [er] at kk
              refine ⟨_, rfl, _, rfl, _, rfl, _, rfl, by show 2 ≤ sizeLine; decide, fun t5 nt5 => ?_⟩
              have sW := s3.trans (same_upd (o := .tup [.str fx, .str u]) nt5)
              refine ⟨q0, _, rfl, DPut.t (k := kP fx u) (sW _ _ eq2) upd_same (small60 (by omega)), ?_⟩
              refine kk _ _ (fun c o e => ?_) ?_ upd_same (hT2.put fx u (b + fc)) (hV2.put mx mu _)
              · rw [upd_ne (ne_of_none e nq)]
                exact sW _ _ (s2 c o e)
              · rw [upd_ne l3q]
                exact sW _ _ el2
            cases ea : T2 fx u with
            | none =>
              exact ⟨_, rfl, iteT (put sV (by unfold M.rx; rw [eb]; dsimp only; rw [ea]) fun kvs' H'' a1 a2 a3 a4 a5 => ⟨_, _, _, kvs', rfl, a1, a2, a3, a4, a5⟩)⟩
            | some g =>
              have vg : valV kvs (kP fx u) = some (.int g) := by rw [hT2.val, ea]; rfl
              refine ⟨_, rfl, iteF ?_⟩
              refine ⟨_, rfl, _, rfl, _, rfl, by show 2 ≤ sizeLine; decide, fun t5 nt5 => ?_⟩
              have sW := sV.trans (same_upd (o := .tup [.str fx, .str u]) nt5)
              refine ⟨q0, .int g, rfl, by have h := DGet.t (k := kP fx u) (sW _ _ eq2) upd_same; rw [vg] at h; exact h, ?_⟩
              refine ⟨_, rfl, _, _, rfl, rfl, _, rfl, ite2 (fun e => ?_) (fun e => ?_)⟩
              · have lt : b + fc < g := of_decide_eq_true e
                exact put sW (by unfold M.rx; rw [eb]; dsimp only; rw [ea]; dsimp only; rw [if_pos lt]) fun kvs' H'' a1 a2 a3 a4 a5 => ⟨_, _, _, kvs', rfl, a1, a2, a3, a4, a5⟩
              · have nl : ¬ b + fc < g := fun z => e (decide_eq_true z)
                have er : M.rx T2 fx fy fc u = T2 := by unfold M.rx; rw [eb]; dsimp only; rw [ea]; dsimp only; rw [if_neg nl]
                rw [er]
                exact ⟨_, _, _, kvs, rfl, s2.trans sW, sW _ _ el2, sW _ _ eq2, hT2, hV2⟩
        · rintro σ H2 ⟨y3, y4, y8, kvs, rfl, s2, el2, eq2, hT2, hV2⟩
          rw [List.length_map, List.take_length] at hT2 hV2
          exact ⟨_, _, _, _, _, _, kvs, rfl, s2, eq2, hT2, hV2⟩
      · rintro σ H1 ⟨y3, y4, y5, y6, y7, y8, kvs, rfl, s1, eq1, hT1, hV1⟩
        rw [hI.len, List.take_length] at hT1 hV1
        exact ⟨_, _, _, _, _, _, kvs, rfl, s1, eq1, hT1, hV1⟩
    · rintro σ H' ⟨y3, y4, y5, y6, y7, y8, kvs, rfl, s', eq, hT, hV⟩
      exact ⟨_, rfl, q q0 kvs H' nq s' eq hT⟩
end
end Fv


set_option Elab.async false
set_option linter.all false
set_option maxRecDepth 100000
set_option maxHeartbeats 4000000
namespace Fv.M
variable {S : Type} [DecidableEq S]
/-- a start, or what goes round below 0 -/
theorem start_or_neg {F : Fa S} {V : List S} (hF : ∀ x y c, (x, y, c) ∈ F → x ∈ V ∧ y ∈ V) : (∃ p, Keeps F p) ∨ Neg F V V.length := by
  by_cases h : Neg F V V.length
  · exact .inr h
  refine .inl ⟨fun x => low0 (V.filterMap (rounds V F V.length (diag V) x)), fun x y c hm => ?_⟩
  have least : ∀ {x y c n}, Wk F (fun s => s ∈ V) x y c n → ∃ g, rounds V F V.length (diag V) x y = some g ∧ g ≤ c := fun w => by
    rcases alt V.length V (Nat.le_refl _) w with ⟨c', n', ws, hc, hn⟩ | hneg
    · obtain ⟨g, hg, hl⟩ := rounds_least ws
      obtain ⟨j, hj⟩ : ∃ j, V.length = n' + j := ⟨V.length - n', by omega⟩
      obtain ⟨g2, hg2, hl2⟩ := rounds_up (V := V) (F := F) (diag V) n' j _ _ _ hg
      exact ⟨g2, by rw [hj]; exact hg2, by omega⟩
    · exact absurd hneg h
  obtain ⟨hx, hy⟩ := hF _ _ _ hm
  show low0 (V.filterMap (rounds V F V.length (diag V) x)) - low0 (V.filterMap (rounds V F V.length (diag V) y)) ≤ c
  rcases low0_at (V.filterMap (rounds V F V.length (diag V) y)) with e | e
  · obtain ⟨g, hg, hl⟩ := least (Wk.cons hm hx (.nil hy))
    have := low0_le (l := V.filterMap (rounds V F V.length (diag V) x)) (List.mem_filterMap.2 ⟨y, hy, hg⟩)
    omega
  · obtain ⟨z, hz, ez⟩ := List.mem_filterMap.1 e
    obtain ⟨n, w⟩ := rounds_there (fun x y c m => (hF x y c m).1) _ _ _ _ ez
    obtain ⟨g, hg, hl⟩ := least (Wk.cons hm hx w)
    have := low0_le (l := V.filterMap (rounds V F V.length (diag V) x)) (List.mem_filterMap.2 ⟨z, hz, hg⟩)
    omega
/-- a point's own sum -/
theorem own_sum {F : Fa S} {V : List S} {k : Nat} {z : S} (hz : z ∈ V) : ∃ g, rounds V F k (diag V) z z = some g ∧ g ≤ 0 := by
  obtain ⟨g, hg, hl⟩ := rounds_up (V := V) (F := F) (diag V) 0 k z z 0 (by show diag V z z = some 0; unfold diag; rw [if_pos ⟨rfl, hz⟩])
  exact ⟨g, by rw [Nat.zero_add] at hg; exact hg, hl⟩
/-- no own sum is below 0 just where a start is -/
theorem own_iff {F : Fa S} {V : List S} {k : Nat} (hk : V.length ≤ k) (hF : ∀ x y c, (x, y, c) ∈ F → x ∈ V ∧ y ∈ V) : (∃ p, Keeps F p) ↔ ∀ z ∈ V, ∀ g, rounds V F k (diag V) z z = some g → ¬ g < 0 := by
  constructor
  · rintro ⟨p, K⟩ z hz g e
    have := same0 K hF hk hz
    rw [this] at e
    cases e
    omega
  · intro h
    rcases start_or_neg hF with p | ⟨x, c, n, w, hc, _⟩
    · exact p
    · obtain ⟨z, hz, g, hg, hl⟩ := rounds_neg hk w hc
      exact absurd hl (h z hz g hg)
end Fv.M
namespace Fv
open PySem PySem.Spec PyProof.Rows L2
/-! ### what the law wants of two arguments -/
abbrev sLDue : Stmt := top 38
abbrev nDu : List Str := ["_law_names_here", "_law_facts_here", "_law_one", "_law_x", "_law_y", "_law_c", "_law_bound"]
def spDue (C : Addr) : Sp := fun vs H Q _ => ∃ (b : Addr) (v0 v1 : V) (d0 d1 : PyData) (zs : List Str) (L : List FaT), vs = [v0, v1] ∧ (∃ o, H b = some o) ∧ Dx C H b v0 d0 ∧ okD d0 ∧ Dx C H b v1 d1 ∧ okD d1 ∧
  ([namesD d0, factsD d1].all id = true → (∃ n a xs, v0 = .ref n ∧ v1 = .ref a ∧ RowAt H n (zs.map V.str) ∧ RowAt H a xs ∧ Its H xs L) ∧ (∀ z ∈ zs, NmOk z) ∧ zs.Nodup ∧ zs.length ≤ 6 ∧ L.length ≤ 60) ∧
  ∀ H' t o, Same H H' → OutF (namesD d0) (factsD d1) zs L o → Dq H' b (.ref t) o → Q (.ref t) H'
section
variable {P : Program} {w : World} {K : PySem.W.Frag} {mg : Str → Option Value} {base : Heap} {C : Addr}
theorem scDu : FnScope nDu ["_law_names_here", "_law_facts_here"] (defScope sLDue) := ⟨rfl, rfl, rfl, by decide +kernel, rfl, by decide +kernel, by decide +kernel⟩
theorem ok_due {f fN fF fC : Addr} {fd fdN fdF fdC : FuncData} (T : KFn K C) (F : Fun K "_law_due" "_law_due" sLDue f fd)
    (GN : FnOk P w K mg base CX0 2 fN fdN ["_law_thing"] (spX C namesD)) (bN : Binds K fdN ["_law_thing"] []) (mN : mg "_law_is_names" = some (.ref fN)) (kN : PySem.W.keepIn K (.ref fN) = true)
    (GF : FnOk P w K mg base CX0 2 fF fdF ["_law_thing"] (spX C factD)) (bF : Binds K fdF ["_law_thing"] []) (mF : mg "_law_is_fact" = some (.ref fF)) (kF : PySem.W.keepIn K (.ref fF) = true)
    (GC : FnOk P w K mg base CX0 1 fC fdC ["_law_names_here", "_law_facts_here"] spLClosedR) (bC : Binds K fdC ["_law_names_here", "_law_facts_here"] []) (mC : mg "_law_closed" = some (.ref fC)) (kC : PySem.W.keepIn K (.ref fC) = true)
    (mq : mg "isinstance" = none) (mL : mg "list" = none) (mt : mg "tuple" = none) (mo : mg "sorted" = none) : FnOk P w K mg base CX0 3 f fd ["_law_names_here", "_law_facts_here"] (spDue C) := by
  refine F.ok scDu (fun vs H Q E h => ?_) (fun cdv A outer s H vs Q E hr h => ?_)
  · obtain ⟨b, v0, v1, _, _, _, _, rfl, _⟩ := h
    rfl
  · obtain ⟨b, v0, v1, d0, d1, zs, L, rfl, hb, h0, o0, h1, o1, hV, q⟩ := h
    have hr1 : Room 1 _ := hr.mono (by decide)
    have hu := hu_of hr
    obtain ⟨t1, I1⟩ := h1.isa T
    refine ⟨_, pss_cons (ps_if (pt_not (pt_val (pe_call GN hr (by rfl) mN kN bN .nil pass0 (pa_cons (pv 0) pa_nil)))) (pss_one (ps_ret (pe_tup (pa_cons pe_str (pa_cons pe_int pa_nil))))) pss_nil)
      (pss_cons (ps_if (PW.pt (pw_and (pt_not (pt_val (pe_callB call_isi (by rfl) mq (by decide +kernel) (pa_cons (pv 1) (pa_cons (pe_bltn (v := .ty "list") (by rfl) mL boot_list rfl) pa_nil))))) (pw_and1 (pt_not (pt_val (pe_callB call_isi (by rfl) mq (by decide +kernel) (pa_cons (pv 1) (pa_cons (pe_bltn (v := .ty "tuple") (by rfl) mt boot_tuple rfl) pa_nil))))))))
        (pss_one (ps_ret (pe_tup (pa_cons pe_str (pa_cons pe_int pa_nil))))) pss_nil)
      (pss_cons (ps_if (pt_cmpR (op_neNil hr.units) (pe_lc (own := [("_law_one", 2)]) (g := gName 2) rfl scDu.nd (pi_row (pv 1)) (blkOk_by (N := nDu) (sc := defScope sLDue) (by decide +kernel))
            (fun _ _ _ _ _ => pg_name (i := 2) scDu.nd rfl (Or.inl rfl)) (fun _ _ _ _ _ => pts_one (pt_not (pt_val (pe_call GF hr (by rfl) mF kF bF .nil pass0 (pa_cons (pv 2) pa_nil))))) (fun _ _ _ _ _ => pv 2)) (pe_lst pa_nil) (nomark _))
        (pss_one (ps_ret (pe_tup (pa_cons pe_str (pa_cons pe_int pa_nil))))) pss_nil)
      (pss_cons (ps_for PassesOwn.never rfl (pi_rowA (pv 1)) (pg_tup (by rfl) (pgs_cons (pg_name (i := 3) scDu.nd rfl (.inl rfl)) (pgs_cons (pg_name (i := 4) scDu.nd rfl (.inl rfl)) (pgs_cons (pg_name (i := 5) scDu.nd rfl (.inl rfl)) pgs_nil))))
        (pss_one (ps_for PassesOwn.never rfl (pi_tup (pe_tup (pa_cons (pv 3) (pa_cons (pv 4) pa_nil)))) (pg_name (i := 2) scDu.nd rfl (.inl rfl))
          (pss_one (ps_if (PW.pt (pw_and (pt_cmpR op_ne (pv 2) pe_str (nomark _)) (pw_and1 (pt_cmpR (r := rIn K true) op_notIn_seq (pv 2) (pv 0) (by rfl)))))
            (pss_one (ps_ret (pe_tup (pa_cons pe_str (pa_cons (pv 2) pa_nil))))) pss_nil)))))
      (pss_cons (ps_set (i := 6) scDu.nd rfl (.inr rfl) (pe_call GC hr1 (by rfl) mC kC bC .nil pass0 (pa_cons (pe_callB (r := rSortB K) call_sortB (by rfl) mo (by decide +kernel) (pa_cons (pv 0) pa_nil)) (pa_cons (pv 1) pa_nil))))
      (pss_cons (ps_if (pt_cmpR (op_neNil hr.units) (pe_lc (own := [("_law_one", 2)]) (g := gName 2) rfl scDu.nd (pi_list (pe_op op_cat (pe_lst (pa_cons pe_str pa_nil)) (pe_callB (r := rSortB K) call_sortB (by rfl) mo (by decide +kernel) (pa_cons (pv 0) pa_nil)))) (blkOk_by (N := nDu) (sc := defScope sLDue) (by decide +kernel))
            (fun _ _ _ _ _ => pg_name (i := 2) scDu.nd rfl (Or.inl rfl)) (fun _ _ _ _ _ => pts_one (pt_cmpR op_lt (pe_dget hu (pv 6) (pe_tup (pa_cons (pv 2) (pa_cons (pv 2) pa_nil))) (fun _ _ => rfl)) pe_int (nomark _))) (fun _ _ _ _ _ => pv 2)) (pe_lst pa_nil) (nomark _))
        (pss_one (ps_ret (pe_tup (pa_cons pe_str (pa_cons pe_int pa_nil))))) pss_nil)
      (pss_one (ps_ret (pe_tup (pa_cons pe_str (pa_cons (pe_callB (r := rSortB K) call_sortB (by rfl) mo (by decide +kernel) (pa_cons (pv 0) pa_nil)) pa_nil)))))))))), ?_⟩
    obtain ⟨ob, hbo⟩ := hb
    have ret2 : ∀ {H1 : Hp} {z : Str} {r : V} {e : PyData}, Same H H1 → OutF (namesD d0) (factsD d1) zs L (.tuple [.str z, e]) → (∀ H2 : Hp, Same H1 H2 → Dq H2 b r e) → ([V.str z, r].length ≤ sizeLine ∧ ∀ t, H1 t = none → Q (.ref t) (upd H1 t (.tup [.str z, r]))) := fun {H1 z r e} s ho hr =>
      ⟨by show 2 ≤ sizeLine; decide, fun t nt => q _ t _ (s.trans (same_upd nt)) ho (.tup upd_same (ne_of_none (s _ _ hbo) nt).symm (.cons (.str z) (.cons (hr _ (same_upd nt)) .nil)))⟩
    refine ⟨_, rfl, b, v0, d0, rfl, h0, o0, ⟨ob, hbo⟩, fun H1 s1 => ⟨_, rfl, ?_⟩⟩
    cases e0 : namesD d0 with
    | false => exact iteT (ret2 s1 (.inl ⟨e0, rfl⟩) fun _ _ => .int 0)
    | true =>
    have h11 : Dx C H1 b v1 d1 := h1.mono fun c o _ e => s1 c o e
    obtain ⟨t2, I2⟩ := h11.isa T
    refine iteF ⟨_, rfl, _, _, _, _, _, rfl, .ty "list", I2.ty, I2.l, _, rfl, ?_⟩
    have wrong1 : factsD d1 = false → ∀ {H2 : Hp}, Same H H2 → ([V.str "wrong", V.int 1].length ≤ sizeLine ∧ ∀ t, H2 t = none → Q (.ref t) (upd H2 t (.tup [.str "wrong", .int 1]))) := fun h {H2} s => ret2 s (.inr (.inl ⟨e0, h, rfl⟩)) fun _ _ => .int 1
    cases hrow : rowD d1 with
    | false =>
      have h12 : isListD d1 = false ∧ isTupD d1 = false := by
        unfold rowD at hrow
        rw [Bool.or_eq_false_iff] at hrow
        exact hrow
      rw [h12.1]
      refine iteT ⟨_, rfl, _, _, _, _, _, rfl, .ty "tuple", I2.ty, I2.t, _, rfl, ?_⟩
      rw [h12.2]
      exact iteT (wrong1 (by unfold factsD; rw [hrow]; rfl) s1)
    | true =>
    obtain ⟨a, xs, ds, rfl, hdd, hro, hx⟩ := h11.row_of (K := K) hrow
    have ef1 : factsD d1 = ds.all factD := by
      unfold factsD
      rw [hrow, rows_items hdd]
      rfl
    obtain ⟨hl, hok⟩ := rows_ok hdd o1
    have hlen := hx.len
    cases hli : isListD d1
    case' true => refine iteF (iteF ?_)
    case' false =>
      have h2 : isTupD d1 = true := by
        unfold rowD at hrow
        rw [hli, Bool.false_or] at hrow
        exact hrow
      refine iteT ⟨_, rfl, _, _, _, _, _, rfl, .ty "tuple", I2.ty, I2.t, _, rfl, ?_⟩
      rw [h2]
      refine iteF ?_
    all_goals (
    refine ⟨_, rfl, a, xs, rfl, hro, fun J G wk hG D nD => ?_⟩
    refine lc_it wk (fun i H' => Same H1 H' ∧ ∃ gs : List V, H' D = some (.lst gs) ∧ gs.length ≤ i ∧ gs.isEmpty = (ds.take i).all factD) ⟨same_upd nD, [], upd_same, Nat.le_refl 0, rfl⟩ (fun i H' _ h => hG H' h.1) ?_ ?_
    · rintro i x H0 H' hi ⟨s', gs, e', gl, ge⟩ ⟨rfl, hxi⟩
      obtain ⟨dx, hdi, hdx⟩ := hx.get hxi
      have tk : (ds.take (i + 1)).all factD = ((ds.take i).all factD && factD dx) := by
        rw [List.take_add_one, hdi, List.all_append]
        show (_ && (factD dx && true)) = _
        rw [Bool.and_true]
      have hil : i < ds.length := (List.getElem?_eq_some_iff.mp hdi).1
      refine ⟨rfl, _, rfl, b, x, dx, rfl, hdx.mono fun c o _ e => s' c o e, hok.mem dx (List.mem_of_getElem? hdi), ⟨ob, s' _ _ (s1 _ _ hbo)⟩, fun H3 s3 => ⟨_, rfl, ?_⟩⟩
      cases hn : factD dx with
      | true => exact iteF ⟨s'.trans s3, gs, s3 _ _ e', by omega, by rw [tk, hn, Bool.and_true]; exact ge⟩
      | false =>
        refine iteT ⟨_, rfl, gs, s3 _ _ e', small60 (by omega), fun c o e => ?_, gs ++ [x], upd_same, by rw [List.length_append]; show _ + 1 ≤ _; omega, ?_⟩
        · rw [upd_ne (ne_of_none e nD)]
          exact s3 _ _ (s' c o e)
        · rw [tk, hn, Bool.and_false]
          cases gs <;> rfl
    rintro H2 ⟨s2, gs, e2, _, ge⟩
    rw [hlen, List.take_length] at ge
    refine ⟨Nat.zero_le _, fun p np => ⟨D, p, gs, rfl, rfl, SqL.of ((same_upd np) _ _ e2), SqL.of upd_same, ?_⟩⟩
    have s12 := (s1.trans s2).trans (same_upd (o := .lst []) np)
    generalize upd H2 p (.lst []) = H3 at s12 ⊢
    rw [ge]
    cases hall : ds.all factD with
    | false => exact ⟨_, rfl, iteT (wrong1 (ef1.trans hall) s12)⟩
    | true =>
    refine ⟨_, rfl, iteF ?_⟩
    have ef1 := ef1.trans hall
    obtain ⟨⟨n, a2, xs2, rfl, ea2, hn, ha, hI⟩, hz, nd, zl, ll⟩ := hV (by rw [e0, ef1]; rfl)
    obtain rfl : a = a2 := V.ref.inj ea2
    clear ea2
    have hnS : ∀ {H' : Hp}, Same H H' → (SqL K H' n (zs.map V.str) ∨ SqT K H' n (zs.map V.str)) := fun {H'} s => (hn.same s).imp SqL.of SqT.of
    rw [show L2.start nDu [V.ref n, V.ref a] = [some (.ref n), some (.ref a), none, none, none, none, none] from rfl]
    refine ⟨_, rfl, a, _, rfl, ha.same s12, fun J2 G2 wk2 hG2 => ?_⟩
    have stA : ∀ {H' : Hp}, Same H H' → G2 H' := fun {H'} s => hG2 H' (by
      obtain ⟨o, e⟩ := ha.ex
      rw [s _ _ e, s12 _ _ e])
    refine for_it wk2 (fun i σ H' => ∃ y2 y3 y4 y5 : Option V, σ = [some (.ref n), some (.ref a), y2, y3, y4, y5, none] ∧ Same H H' ∧ ∀ (j : Nat) (g : FaT), j < i → L[j]? = some g → SrcIn zs g.1 ∧ SrcIn zs g.2.1)
      ⟨none, none, none, none, rfl, s12, fun j g h => absurd h (Nat.not_lt_zero j)⟩ (fun i σ H' _ h => by obtain ⟨_, _, _, _, _, s', _⟩ := h; exact stA s') ?_ ?_
    · rintro i x σ H0 H' hi ⟨y2, y3, y4, y5, rfl, s', hbf⟩ ⟨rfl, hxi⟩
      obtain ⟨⟨fx, fy, fc⟩, hf, t, rfl, ht⟩ := hI.at_ i x hxi
      refine ⟨t, _, rfl, SqT.of (s' _ _ ht), rfl, _, _, rfl, _, _, rfl, _, _, rfl, rfl, ?_⟩
      refine ⟨_, rfl, _, rfl, by show 2 ≤ sizeLine; decide, fun p np => ?_⟩
      have sp := same_upd (o := .tup [.str fx, .str fy]) np
      have s3 := s'.trans sp
      refine ⟨p, rfl, ⟨_, SqT.of upd_same⟩, ?_⟩
      refine for_tup (K := K) (a := p) (xs := [.str fx, .str fy]) (fun i σ H2 => (∃ y2 : Option V, σ = [some (.ref n), some (.ref a), y2, some (.str fx), some (.str fy), some (.int fc), none] ∧ H2 = upd H' p (.tup [.str fx, .str fy])) ∧ (1 ≤ i → SrcIn zs fx) ∧ (2 ≤ i → SrcIn zs fy))
        ⟨⟨y2, rfl, rfl⟩, fun h => absurd h (by decide), fun h => absurd h (by decide)⟩ (fun i σ H2 _ h => by obtain ⟨⟨_, _, rfl⟩, _⟩ := h; exact SqT.of upd_same) ?_ ?_
      · rintro j x σ H2 hxj ⟨⟨y2, rfl, rfl⟩, hb1, hb2⟩
        obtain ⟨z, rfl, hz0, hz1⟩ : ∃ z, x = .str z ∧ (j = 0 → z = fx) ∧ (j ≠ 0 → j = 1 ∧ z = fy) := by
          match j, hxj with
          | 0, h => cases h; exact ⟨fx, rfl, fun _ => rfl, fun h => absurd rfl h⟩
          | 1, h => cases h; exact ⟨fy, rfl, (fun h => by cases h), fun _ => ⟨rfl, rfl⟩⟩
        have good : SrcIn zs z → (1 ≤ j + 1 → SrcIn zs fx) ∧ (2 ≤ j + 1 → SrcIn zs fy) := fun h => by
          by_cases e : j = 0
          · rw [← hz0 e]
            exact ⟨fun _ => h, fun h2 => absurd h2 (by omega)⟩
          · obtain ⟨e1, e2⟩ := hz1 e
            rw [← e2]
            exact ⟨fun _ => hb1 (by omega), fun _ => h⟩
        refine ⟨_, rfl, rfl, _, rfl, ite2 (fun e => ?_) (fun e => ?_)⟩
        · have nz : z ≠ "" := fun q => by simp [q] at e
          refine ⟨_, rfl, _, rfl, n, _, rfl, hnS s3, rfl, flat_strs zs, _, rfl, ?_⟩
          rw [if_pos rfl, inV_strs]
          by_cases hm : z ∈ zs
          · rw [decide_eq_true hm]
            exact iteF ⟨⟨_, rfl, rfl⟩, good (.inr hm)⟩
          · rw [decide_eq_false hm]
            have bad : ¬ SrcIn zs z := fun h => h.elim nz hm
            refine iteT ⟨_, rfl, ret2 s3 (.inr (.inr (.inl ⟨e0, ef1, z, ⟨i, (fx, fy, fc), hf, hbf, ?_⟩, rfl⟩))) fun _ _ => .str z⟩
            by_cases e : j = 0
            · exact .inl ⟨(hz0 e).symm, by rw [show (fx, fy, fc).1 = fx from rfl, ← hz0 e]; exact bad⟩
            · obtain ⟨e1, e2⟩ := hz1 e
              exact .inr ⟨hb1 (by omega), e2.symm, by rw [show (fx, fy, fc).2.1 = fy from rfl, ← e2]; exact bad⟩
        · have ez : z = "" := by
            by_cases q : z = ""
            · exact q
            · exact absurd (by simp [q]) e
          exact ⟨⟨_, rfl, rfl⟩, good (.inl ez)⟩
      · rintro σ H2 ⟨⟨y2, rfl, rfl⟩, hb1, hb2⟩
        refine ⟨_, _, _, _, rfl, s3, fun j g hj hg => ?_⟩
        by_cases e : j = i
        · rw [e, hf] at hg
          cases hg
          exact ⟨hb1 (by show 1 ≤ 2; decide), hb2 (by show 2 ≤ 2; decide)⟩
        · exact hbf j g (by omega) hg
    rintro σ H4 ⟨y2, y3, y4, y5, rfl, s4, hbf⟩
    have hsrc : ∀ f ∈ L, SrcIn zs f.1 ∧ SrcIn zs f.2.1 := fun f hf => by
      obtain ⟨j, hj⟩ := List.getElem?_of_mem hf
      have hjl := (List.getElem?_eq_some_iff.mp hj).1
      exact hbf j f (by rw [hI.len]; exact hjl) hj
    clear hbf stA
    refine ⟨_, rfl, n, zs, rfl, hnS s4, by omega, fun ys r perm srt nr wr => ?_⟩
    have s5 := s4.trans (same_upd (o := .lst (ys.map V.str)) nr)
    have er : (upd H4 r (.lst (ys.map V.str))) r = some (.lst (ys.map V.str)) := upd_same
    generalize upd H4 r (.lst (ys.map V.str)) = H5 at s5 er ⊢
    have srcY : ∀ u, SrcIn zs u → SrcIn ys u := fun u h => h.imp id fun h => perm.mem_iff.mpr h
    have ylen := perm.length_eq
    refine ⟨_, rfl, r, a, ys, _, L, rfl, er, ha.same s5, hI.same s5, by omega, fun f hf => ⟨srcY _ (hsrc f hf).1, srcY _ (hsrc f hf).2⟩, fun qd kvs H6 nq s6 eq hT => ?_⟩
    have s06 := s5.trans s6
    simp only [gName, List.set_cons_zero, List.set_cons_succ]
    -- is a sum of a point with itself below 0?
    refine ⟨by show 1 ≤ sizeLine; decide, fun l1 nl1 => ?_⟩
    have u1 := same_upd (o := .lst [.str ("" : Str)]) nl1
    refine ⟨_, rfl, n, zs, rfl, hnS (s06.trans u1), by omega, fun ys2 l2 perm2 srt2 nl2 wl2 => ?_⟩
    have u2 := u1.trans (same_upd (o := .lst (ys2.map V.str)) nl2)
    have el1 : (upd (upd H6 l1 (.lst [.str ("" : Str)])) l2 (.lst (ys2.map V.str))) l1 = some (.lst [.str ("" : Str)]) := by rw [upd_ne (ne_of_none upd_same nl2)]; exact upd_same
    have y2len := perm2.length_eq
    refine ⟨l1, l2, _, _, rfl, rfl, el1, upd_same, ?_, fun l3 nl3 => ?_⟩
    · rw [List.length_map]
      exact small_line (by rw [show ([V.str ("" : Str)]).length = 1 from rfl]; omega)
    have u3 := u2.trans (same_upd (o := .lst ([.str ("" : Str)] ++ ys2.map V.str)) nl3)
    have el3 : (upd (upd (upd H6 l1 (.lst [.str ("" : Str)])) l2 (.lst (ys2.map V.str))) l3 (.lst ([.str ("" : Str)] ++ ys2.map V.str))) l3 = some (.lst ((srcs ys2).map V.str)) := upd_same
    generalize upd (upd (upd H6 l1 (.lst [.str ("" : Str)])) l2 (.lst (ys2.map V.str))) l3 (.lst ([.str ("" : Str)] ++ ys2.map V.str)) = H7 at u3 el3 ⊢
    have eq7 := u3 _ _ eq
    have s07 := s06.trans u3
    have hFV : ∀ x y c, (x, y, c) ∈ L → x ∈ srcs ys ∧ y ∈ srcs ys := fun x y c hm => ⟨src_mem.mpr (srcY _ (hsrc _ hm).1), src_mem.mpr (srcY _ (hsrc _ hm).2)⟩
    have hVl : (srcs ys).length ≤ ys.length + 2 := by
      show ys.length + 1 ≤ _
      omega
    have mem2 : ∀ z, z ∈ srcs ys2 ↔ z ∈ srcs ys := fun z => by
      rw [src_mem, src_mem]
      unfold SrcIn
      rw [perm2.mem_iff, perm.mem_iff]
    have iff_ := M.own_iff (F := L) (k := ys.length + 2) hVl hFV
    have own := fun z (hz : z ∈ srcs ys) => M.own_sum (F := L) (k := ys.length + 2) hz
    generalize M.rounds (srcs ys) L (ys.length + 2) (M.diag (srcs ys)) = TT at hT iff_ own
    obtain ⟨low, hlow⟩ : ∃ low : Str → Bool, ∀ z, low z = match TT z z with | some g => decide (g < 0) | none => false := ⟨_, fun _ => rfl⟩
    refine ⟨l3, rfl, ⟨_, SqL.of el3⟩, fun D3 nD3 => ?_⟩
    refine lc_list (K := K) (a := l3) (xs := (srcs ys2).map V.str) (fun i H' => Same H7 H' ∧ ∃ gs : List V, H' D3 = some (.lst gs) ∧ gs.length ≤ i ∧ gs.isEmpty = ((srcs ys2).take i).all fun z => !low z) ⟨same_upd nD3, [], upd_same, Nat.le_refl 0, rfl⟩ (fun i H' _ h => SqL.of (h.1 _ _ el3)) ?_ ?_
    · rintro i x H' hxi ⟨s', gs, e', gl, ge⟩
      obtain ⟨u, huI, rfl⟩ : ∃ u, (srcs ys2)[i]? = some u ∧ x = .str u := by
        rw [List.getElem?_map] at hxi
        cases e : (srcs ys2)[i]? with
        | none => rw [e] at hxi; cases hxi
        | some z => rw [e] at hxi; cases hxi; exact ⟨z, rfl, rfl⟩
      have il : i < (srcs ys2).length := (List.getElem?_eq_some_iff.mp huI).1
      have il2 : (srcs ys2).length = ys2.length + 1 := rfl
      have tk : (((srcs ys2).take (i + 1)).all fun z => !low z) = ((((srcs ys2).take i).all fun z => !low z) && !low u) := by
        rw [List.take_add_one, huI, List.all_append]
        show (_ && (!low u && true)) = _
        rw [Bool.and_true]
      obtain ⟨g, hg, _⟩ := own u ((mem2 u).mp (List.mem_of_getElem? huI))
      have lowu : low u = decide (g < 0) := by rw [hlow, hg]
      refine ⟨rfl, _, rfl, _, rfl, _, rfl, by show 2 ≤ sizeLine; decide, fun t nt => ?_⟩
      have sT := same_upd (o := .tup [.str u, .str u]) nt
      have hv : valV kvs (kP u u) = some (.int g) := by rw [hT.val, hg]; rfl
      refine ⟨qd, .int g, rfl, hv ▸ DGet.t (k := kP u u) (sT _ _ (s' _ _ eq7)) upd_same, ?_⟩
      refine ⟨_, _, rfl, rfl, _, rfl, ?_⟩
      rw [← lowu]
      cases hlu : low u with
      | false => exact iteF ⟨s'.trans sT, gs, sT _ _ e', by omega, by rw [tk, hlu]; simpa using ge⟩
      | true =>
        refine iteT ⟨_, rfl, gs, sT _ _ e', small60 (by omega), fun c o e => ?_, gs ++ [.str u], upd_same, by rw [List.length_append]; show _ + 1 ≤ _; omega, ?_⟩
        · rw [upd_ne (ne_of_none e nD3)]
          exact sT _ _ (s' c o e)
        · rw [tk, hlu]
          cases gs <;> simp
    rintro H8 ⟨s8, gs2, e8, _, ge2⟩
    rw [List.length_map, List.take_length] at ge2
    refine ⟨Nat.zero_le _, fun p3 np3 => ⟨D3, p3, gs2, rfl, rfl, SqL.of ((same_upd np3) _ _ e8), SqL.of upd_same, ?_⟩⟩
    have s08 := (s07.trans s8).trans (same_upd (o := .lst []) np3)
    generalize upd H8 p3 (.lst []) = H9 at s08 ⊢
    rw [ge2]
    cases hlo : (srcs ys2).all fun z => !low z with
    | false =>
      have np : ¬ ∃ p, M.Keeps L p := fun hp => by
        have h := iff_.mp hp
        have : (srcs ys2).all (fun z => !low z) = true := List.all_eq_true.mpr fun z hz => by
          obtain ⟨g, hg, _⟩ := own z ((mem2 z).mp hz)
          rw [hlow, hg]
          show (!decide (g < 0)) = true
          rw [decide_eq_false (h z ((mem2 z).mp hz) g hg)]
          rfl
        rw [hlo] at this
        cases this
      exact ⟨_, rfl, iteT (ret2 s08 (.inr (.inr (.inr (.inl ⟨e0, ef1, hsrc, np, rfl⟩)))) fun _ _ => .int 0)⟩
    | true =>
      have hp : ∃ p, M.Keeps L p := iff_.mpr fun z hz g hg lt => by
        have := List.all_eq_true.mp hlo z ((mem2 z).mpr hz)
        rw [hlow, hg, show (match some g with | some g => decide (g < 0) | none => false) = decide (g < 0) from rfl, decide_eq_true lt] at this
        cases this
      refine ⟨_, rfl, iteF ⟨_, rfl, n, zs, rfl, hnS s08, by omega, fun ys3 l4 perm3 srt3 nl4 wl4 => ?_⟩⟩
      have u4 := same_upd (o := .lst (ys3.map V.str)) nl4
      refine ret2 (s08.trans u4) (.inr (.inr (.inr (.inr ⟨e0, ef1, hsrc, hp, ys3, perm3, srt3, rfl⟩)))) fun H2 s2 => ?_
      exact .lst (s2 _ _ upd_same) (ne_of_none (s08 _ _ hbo) nl4).symm wl4 (dq_strs ys3))
end
end Fv


set_option Elab.async false
set_option linter.all false
set_option maxRecDepth 100000
set_option maxHeartbeats 4000000
namespace Fv
open PySem PySem.Spec PyProof.Rows L2
/-! ### what comes of two arguments is one thing -/
theorem FirstBad.uniq {zs : List Str} {L : List FaT} {u v : Str} (h : FirstBad zs L u) (k : FirstBad zs L v) : u = v := by
  obtain ⟨i, f, hf, bf, hu⟩ := h
  obtain ⟨j, g, hg, bg, hv⟩ := k
  have bad : ∀ {z : Str} {e : FaT}, ((e.1 = z ∧ ¬ SrcIn zs e.1) ∨ (SrcIn zs e.1 ∧ e.2.1 = z ∧ ¬ SrcIn zs e.2.1)) → ¬ (SrcIn zs e.1 ∧ SrcIn zs e.2.1) := fun h k => h.elim (fun h => h.2 k.1) fun h => h.2.2 k.2
  rcases Nat.lt_trichotomy i j with l | l | l
  · exact absurd (bg i f l hf) (bad hu)
  · subst l
    rw [hf] at hg
    cases hg
    rcases hu with hu | hu
    · rcases hv with hv | hv
      · exact hu.1.symm.trans hv.1
      · exact absurd hv.1 hu.2
    · rcases hv with hv | hv
      · exact absurd hu.1 hv.2
      · exact hu.2.1.symm.trans hv.2.1
  · exact absurd (bf j g l hg) (bad hv)
theorem FirstBad.not {zs : List Str} {L : List FaT} {u : Str} (h : FirstBad zs L u) : ¬ ∀ f ∈ L, SrcIn zs f.1 ∧ SrcIn zs f.2.1 := fun k => by
  obtain ⟨i, f, hf, _, hu⟩ := h
  have := k f (List.mem_of_getElem? hf)
  rcases hu with hu | hu
  · exact hu.2 this.1
  · exact hu.2.2 this.2
theorem OutF.uniq {r0 r1 : Bool} {zs : List Str} {L : List FaT} {o o' : PyData} (h : OutF r0 r1 zs L o) (k : OutF r0 r1 zs L o') : o = o' := by
  rcases h with ⟨a1, rfl⟩ | ⟨a1, a2, rfl⟩ | ⟨a1, a2, u, a3, rfl⟩ | ⟨a1, a2, a3, a4, rfl⟩ | ⟨a1, a2, a3, a4, ys, a5, a6, rfl⟩ <;>
  rcases k with ⟨b1, rfl⟩ | ⟨b1, b2, rfl⟩ | ⟨b1, b2, v, b3, rfl⟩ | ⟨b1, b2, b3, b4, rfl⟩ | ⟨b1, b2, b3, b4, ws, b5, b6, rfl⟩ <;>
  first
  | rfl
  | exact absurd (a1.symm.trans b1) (by decide)
  | exact absurd (a2.symm.trans b2) (by decide)
  | (rw [a3.uniq b3])
  | exact absurd b3 a3.not
  | exact absurd a3 b3.not
  | exact absurd b4 a4
  | exact absurd a4 b4
  | (rw [sorted_same a6 b6 a5 b5 (.refl _)])
/-! ### names and facts of data -/
theorem source_str {d : PyData} (h : sourceD d = true) : ∃ z, d = .str z := by
  cases d with
  | str z => exact ⟨z, rfl⟩
  | _ => cases h
theorem fact_shape {d : PyData} (h : factD d = true) : ∃ x y c, d = .tuple [.str x, .str y, .int c] := by
  cases d with
  | tuple ds =>
    match ds, h with
    | [x, y, c], h =>
      have h : (sourceD x && sourceD y && intD c) = true := h
      rw [Bool.and_eq_true, Bool.and_eq_true] at h
      obtain ⟨⟨h1, h2⟩, h3⟩ := h
      obtain ⟨x, rfl⟩ := source_str h1
      obtain ⟨y, rfl⟩ := source_str h2
      cases c with
      | int c => exact ⟨x, y, c, rfl⟩
      | _ => cases h3
  | _ => cases h
theorem its_of {C : Addr} {H : Hp} {b : Addr} : ∀ {xs : List V} {ds : List PyData}, DxAll C H b xs ds → (∀ d ∈ ds, factD d = true) → ∃ L : List FaT, Its H xs L ∧ L.length = ds.length ∧ ∀ f ∈ L, factD (faD f) = true
  | _, _, .nil, _ => ⟨[], Its.nil, rfl, fun _ h => absurd h List.not_mem_nil⟩
  | _, _, .cons (v := v) (d := d) h t, n => by
    obtain ⟨L, hL, hl, hf⟩ := its_of t fun d hd => n d (List.mem_cons_of_mem _ hd)
    have n0 := n d List.mem_cons_self
    obtain ⟨x, y, c, rfl⟩ := fact_shape n0
    refine ⟨(x, y, c) :: L, ⟨by rw [List.length_cons, List.length_cons, hL.len], fun i u hu => ?_⟩, by rw [List.length_cons, List.length_cons, hl], fun f h => (List.mem_cons.mp h).elim (fun e => by rw [e]; exact n0) (hf f)⟩
    match i, hu with
    | 0, hu =>
      cases hu
      refine ⟨_, rfl, ?_⟩
      cases h with
      | tup e _ h3 =>
        cases h3 with
        | cons g1 h3 => cases h3 with
          | cons g2 h3 => cases h3 with
            | cons g3 h3 =>
              cases h3
              cases g1
              cases g2
              cases g3
              exact ⟨_, rfl, e⟩
    | i + 1, hu => exact hL.at_ i u hu
theorem row_at {C : Addr} {H : Hp} {b : Addr} {v : V} {d : PyData} (h : Dx C H b v d) (r : rowD d = true) : ∃ a xs, v = .ref a ∧ RowAt H a xs ∧ DxAll C H b xs (itemsD d) := by
  cases h with
  | lst e _ h => exact ⟨_, _, rfl, .inl e, h⟩
  | tup e _ h => exact ⟨_, _, rfl, .inr e, h⟩
  | _ => cases r
theorem two_of_data {C : Addr} {H : Hp} {b : Addr} {v0 v1 : V} {d0 d1 : PyData} (h0 : Dx C H b v0 d0) (h1 : Dx C H b v1 d1) (l0 : (itemsD d0).length ≤ 6) (l1 : (itemsD d1).length ≤ 60) :
    ∃ (zs : List Str) (L : List FaT), ([namesD d0, factsD d1].all id = true → ∃ n a xs, v0 = .ref n ∧ v1 = .ref a ∧ RowAt H n (zs.map V.str) ∧ RowAt H a xs ∧ Its H xs L) ∧ (∀ z ∈ zs, NmOk z) ∧ zs.Nodup ∧ zs.length ≤ 6 ∧ L.length ≤ 60 ∧ ∀ f ∈ L, factD (faD f) = true := by
  by_cases all : [namesD d0, factsD d1].all id = true
  · have both : namesD d0 = true ∧ factsD d1 = true := by
      cases h0' : namesD d0 <;> cases h1' : factsD d1 <;> rw [h0', h1'] at all <;> first | exact ⟨rfl, rfl⟩ | cases all
    obtain ⟨n0, f1⟩ := both
    have n0' : (rowD d0 && (itemsD d0).all nameD && decide ((itemsD d0).map strS).Nodup) = true := n0
    rw [Bool.and_eq_true, Bool.and_eq_true, decide_eq_true_eq] at n0'
    obtain ⟨⟨r0, a0⟩, nd⟩ := n0'
    have f1' : (rowD d1 && (itemsD d1).all factD) = true := f1
    rw [Bool.and_eq_true] at f1'
    obtain ⟨r1, a1⟩ := f1'
    obtain ⟨n, ns, rfl, hn, xn⟩ := row_at h0 r0
    obtain ⟨a, xs, rfl, ha, xa⟩ := row_at h1 r1
    have en := good_strs xn fun d hd => List.all_eq_true.mp a0 d hd
    obtain ⟨L, hL, hl, hf⟩ := its_of xa fun d hd => List.all_eq_true.mp a1 d hd
    refine ⟨(itemsD d0).map strS, L, fun _ => ⟨n, a, xs, rfl, rfl, en ▸ hn, ha, hL⟩, fun z hz => ?_, nd, by rw [List.length_map]; exact l0, by omega, hf⟩
    obtain ⟨d, hd, rfl⟩ := List.mem_map.mp hz
    have nmd := List.all_eq_true.mp a0 d hd
    obtain ⟨z, rfl⟩ := name_str nmd
    exact nm_of nmd
  · exact ⟨[], [], fun h => absurd h all, fun _ h => absurd h List.not_mem_nil, List.nodup_nil, Nat.zero_le _, Nat.zero_le _, fun _ h => absurd h List.not_mem_nil⟩
end Fv


set_option Elab.async false
set_option linter.all false
set_option maxRecDepth 100000
set_option maxHeartbeats 2000000
namespace Fv
open PySem PySem.Spec PyProof.Rows L2
abbrev sAlike : Stmt := top 27
mutual
theorem Dq.dp {K : PySem.W.Frag} {H : Hp} {b : Addr} : ∀ {v : V} {d : PyData}, Dq H b v d → d.canLay0 = true → Dp K H v d
  | _, _, .non, _ => .non
  | _, _, .bl x, _ => .bl x
  | _, _, .int i, _ => .int i
  | _, _, .str x, _ => .str x
  | _, _, .lst e _ _ h, c => .lst (SqL.of e) (DqAll.dp h (by simpa only [PyData.canLay0] using c))
  | _, _, .tup e _ h, c => .tup (SqT.of e) (DqAll.dp h (by simpa only [PyData.canLay0] using c))
  | _, _, .dct _ _ _ _, c => by simp [PyData.canLay0] at c
theorem DqAll.dp {K : PySem.W.Frag} {H : Hp} {b : Addr} : ∀ {v : List V} {d : List PyData}, DqAll H b v d → PyData.canLayAll0 d = true → DpAll K H v d
  | _, _, .nil, _ => .nil
  | _, _, .cons h t, c => by
    simp only [PyData.canLayAll0, Bool.and_eq_true] at c
    exact .cons (Dq.dp h c.1) (DqAll.dp t c.2)
end
structure Flat (d : PyData) : Prop extends Fine d where
  shape : SeqAt.shaped d = true
def spAlike : Sp := fun vs H Q _ => ∃ (b : Addr) (x y : V) (d : PyData), vs = [x, y] ∧ Dq H b x d ∧ Dq H b y d ∧ Flat d ∧ Q (.bl true) H
section
variable {P : Program} {w : World} {K : PySem.W.Frag} {mg : Str → Option Value} {base : Heap}
theorem sd9 : FnScope ["_law_found", "_law_due_here"] ["_law_found", "_law_due_here"] (defScope sAlike) := ⟨rfl, rfl, rfl, by decide +kernel, rfl, by decide +kernel, by decide +kernel⟩
theorem ok_alike {f : Addr} {fd : FuncData} (F : Fun K "_law_alike" "_law_alike" sAlike f fd) (mr : mg "repr" = none) : FnG P w K mg base 1 f fd ["_law_found", "_law_due_here"] spAlike := by
  refine okG F sd9 (fun vs H Q E h => ?_) (fun cdv A outer s H vs Q E hg hr h => ?_)
  · obtain ⟨b, x, y, d, rfl, _⟩ := h
    rfl
  · obtain ⟨b, x, y, d, rfl, hx, hy, fl, q⟩ := h
    refine ⟨_, pss_one (ps_ret (pe_and (pe_cmpR (op_eqD hr.units) (pv 0) (pv 1) (nomark _))
      (pe_one (pe_cmpR op_eq (pe_callB (call_reprD hg hr.units) (by rfl) mr (by decide +kernel) (pa_cons (pv 0) pa_nil)) (pe_callB (call_reprD hg hr.units) (by rfl) mr (by decide +kernel) (pa_cons (pv 1) pa_nil)) (nomark _))))), ?_⟩
    have cl := SeqAt.canLay_of_shaped fl.shape
    refine ⟨_, rfl, _, rfl, d, d, hx.dp cl, hy.dp cl, fl.shape, fl.shape, _, rfl, ?_⟩
    rw [SeqAt.eqv_refl d cl]
    refine iteT ⟨_, rfl, b, _, d, rfl, hx, fl.show_, fl.line, fl.low, _, rfl, b, _, d, rfl, hy, fl.show_, fl.line, fl.low, rfl, ?_⟩
    show Q (V.bl (decide (V.str d.shown = V.str d.shown))) H
    rw [decide_eq_true rfl]
    exact q
end
end Fv


set_option Elab.async false
set_option linter.all false
set_option maxRecDepth 100000
set_option maxHeartbeats 4000000
namespace Fv
open PySem PySem.Spec PyProof.Rows L2
/-! ### data with short lists -/
mutual
def okM : PyData → Prop
  | .str z => z.length ≤ 1000 ∧ ∀ c ∈ z.cps.toList, c < 128
  | .list ds => ds.length ≤ 24 ∧ okMs ds
  | .tuple ds => ds.length ≤ 24 ∧ okMs ds
  | _ => True
def okMs : List PyData → Prop
  | [] => True
  | d :: ds => okM d ∧ okMs ds
end
mutual
theorem okM.ok : ∀ {d : PyData}, okM d → okD d
  | .none, _ => True.intro
  | .bool _, _ => True.intro
  | .int _, _ => True.intro
  | .str _, h => h
  | .list _, h => ⟨Nat.le_trans h.1 (by decide), okMs.ok h.2⟩
  | .tuple _, h => ⟨Nat.le_trans h.1 (by decide), okMs.ok h.2⟩
  | .dict _, _ => True.intro
theorem okMs.ok : ∀ {ds : List PyData}, okMs ds → okAll ds
  | [], _ => True.intro
  | _ :: _, h => ⟨okM.ok h.1, okMs.ok h.2⟩
end
theorem okMs.mem : ∀ {ds : List PyData}, okMs ds → ∀ d ∈ ds, okM d
  | d :: ds, h, x, hx => by
    rcases List.mem_cons.mp hx with rfl | hx
    · exact h.1
    · exact okMs.mem h.2 x hx
theorem okM.items {d : PyData} (h : okM d) : (itemsD d).length ≤ 24 ∧ okMs (itemsD d) := by
  cases d <;> first | exact h | exact ⟨Nat.zero_le _, True.intro⟩
def dictD : PyData → Bool
  | .dict _ => true
  | _ => false
theorem in_del {H H' : Hp} {D : Addr} (s : Same H H') (n : H D = none) : ∀ c o, H c = some o → del H' D c = some o := fun c o e => by
  rw [del_ne (ne_of_none e n)]
  exact s c o e
theorem del_upd {H : Hp} {D : Addr} {o : HO} : del (upd H D o) D = del H D := by
  funext c
  by_cases h : c = D
  · rw [h, del_same, del_same]
  · rw [del_ne h, del_ne h, upd_ne h]
theorem del_sub {H : Hp} {D : Addr} : ∀ c o, del H D c = some o → H c = some o := fun c o e => by
  by_cases h : c = D
  · rw [h, del_same] at e
    cases e
  · rw [del_ne h] at e
    exact e
theorem del_none {H : Hp} {a x : Addr} (n : H x = none) : (del H a) x = none := by
  by_cases h : x = a
  · rw [h, del_same]
  · rw [del_ne h]
    exact n
end Fv


set_option Elab.async false
set_option linter.all false
set_option maxRecDepth 100000
set_option maxHeartbeats 4000000
namespace Fv
open PySem PySem.Spec PyProof.Rows L2
/-! ### how long a datum is at most when it is shown -/
mutual
def sz : PyData → Nat
  | .list ds => szs ds + 3
  | .tuple ds => szs ds + 3
  | .dict ps => szk ps + 3
  | d => d.shown.length
def szs : List PyData → Nat
  | [] => 0
  | d :: ds => sz d + 2 + szs ds
def szk : List (PyData × PyData) → Nat
  | [] => 0
  | (a, c) :: ps => sz a + sz c + 4 + szk ps
end
mutual
theorem sz_le : ∀ d : PyData, d.shown.length ≤ sz d
  | .none => Nat.le_refl _
  | .bool _ => Nat.le_refl _
  | .int _ => Nat.le_refl _
  | .str _ => Nat.le_refl _
  | .list ds => by
    rw [PyData.shown, sz]
    have := listText_len_le (PyData.shownAll ds)
    have h2 := szs_le ds
    rw [PyData.shownAll_length] at this
    omega
  | .tuple ds => by
    rw [PyData.shown, sz]
    have := tupleText_len_le (PyData.shownAll ds)
    have h2 := szs_le ds
    rw [PyData.shownAll_length] at this
    omega
  | .dict ps => by
    rw [PyData.shown, sz]
    have := dictText_len_le (PyData.shownKv ps)
    have h2 := szk_le ps
    rw [PyData.shownKv_length] at this
    omega
theorem szs_le : ∀ ds : List PyData, ((PyData.shownAll ds).map (·.length)).sum + 2 * ds.length ≤ szs ds
  | [] => by simp [PyData.shownAll, szs]
  | d :: ds => by
    have h1 := sz_le d
    have h2 := szs_le ds
    simp only [PyData.shownAll, List.map_cons, List.sum_cons, List.length_cons, szs]
    omega
theorem szk_le : ∀ ps : List (PyData × PyData), ((PyData.shownKv ps).map (·.length)).sum + 2 * ps.length ≤ szk ps
  | [] => by simp [PyData.shownKv, szk]
  | (a, c) :: ps => by
    have l1 := sz_le a
    have l2 := sz_le c
    have l3 := szk_le ps
    have e2 : (a.shown ++ ": " ++ c.shown).length = a.shown.length + 2 + c.shown.length := by
      rw [strLen_append, strLen_append]; rfl
    simp only [PyData.shownKv, List.map_cons, List.sum_cons, List.length_cons, szk]
    omega
end
structure Rp (n W : Nat) (d : PyData) : Prop where
  sh : d.showable = true
  len : sz d ≤ W
  dp : d.depth ≤ n
structure RpS (n S : Nat) (es : List PyData) : Prop where
  sh : PyData.showableAll es = true
  len : szs es ≤ S
  dp : PyData.depthAll es ≤ n
theorem Rp.mono {n W m V : Nat} {d : PyData} (h : Rp n W d) (hn : n ≤ m) (hw : W ≤ V) : Rp m V d := ⟨h.sh, Nat.le_trans h.len hw, Nat.le_trans h.dp hn⟩
theorem RpS.mono {n W m V : Nat} {d : List PyData} (h : RpS n W d) (hn : n ≤ m) (hw : W ≤ V) : RpS m V d := ⟨h.sh, Nat.le_trans h.len hw, Nat.le_trans h.dp hn⟩
theorem RpS.nil {n : Nat} : RpS n 0 [] := ⟨by simp [PyData.showableAll], by simp [szs], by simp [PyData.depthAll]⟩
theorem RpS.cons {n W S : Nat} {e : PyData} {es : List PyData} (h : Rp n W e) (k : RpS n S es) : RpS n (W + 2 + S) (e :: es) := by
  refine ⟨by rw [PyData.showableAll, h.sh, k.sh]; rfl, ?_, by rw [PyData.depthAll]; exact Nat.max_le.mpr ⟨h.dp, k.dp⟩⟩
  have h1 := h.len
  have h2 := k.len
  rw [szs]
  omega
theorem RpS.all {n W : Nat} : ∀ {es : List PyData}, (∀ e ∈ es, Rp n W e) → RpS n (es.length * (W + 2)) es
  | [], _ => (RpS.nil).mono (Nat.le_refl _) (Nat.zero_le _)
  | e :: es, h => by
    have := RpS.cons (h e List.mem_cons_self) (RpS.all fun x hx => h x (List.mem_cons_of_mem _ hx))
    refine this.mono (Nat.le_refl _) ?_
    rw [List.length_cons, Nat.add_mul]
    omega
theorem RpS.upTo {n W L : Nat} {es : List PyData} (h : ∀ e ∈ es, Rp n W e) (hl : es.length ≤ L) : RpS n (L * (W + 2)) es := (RpS.all h).mono (Nat.le_refl _) (Nat.mul_le_mul_right _ hl)
theorem RpS.tup {n S : Nat} {es : List PyData} (h : RpS n S es) : Rp (n + 1) (S + 3) (.tuple es) := by
  refine ⟨by rw [PyData.showable]; exact h.sh, ?_, by rw [PyData.depth]; exact Nat.succ_le_succ h.dp⟩
  rw [sz]
  have h2 := h.len
  omega
theorem RpS.lst {n S : Nat} {es : List PyData} (h : RpS n S es) : Rp (n + 1) (S + 3) (.list es) := by
  refine ⟨by rw [PyData.showable]; exact h.sh, ?_, by rw [PyData.depth]; exact Nat.succ_le_succ h.dp⟩
  rw [sz]
  have h2 := h.len
  omega
structure RpK (n S : Nat) (ps : List (PyData × PyData)) : Prop where
  sh : PyData.showableKv ps = true
  len : szk ps ≤ S
  dp : PyData.depthKv ps ≤ n
theorem RpK.all {n W : Nat} : ∀ {ps : List (PyData × PyData)}, (∀ p ∈ ps, Rp n W p.1 ∧ Rp n W p.2) → RpK n (ps.length * (2 * W + 4)) ps
  | [], _ => ⟨by simp [PyData.showableKv], by simp [szk], by simp [PyData.depthKv]⟩
  | (a, c) :: ps, h => by
    have h1 := h _ List.mem_cons_self
    have k := RpK.all (ps := ps) fun x hx => h x (List.mem_cons_of_mem _ hx)
    refine ⟨by rw [PyData.showableKv, h1.1.sh, h1.2.sh, k.sh]; rfl, ?_, by rw [PyData.depthKv]; exact Nat.max_le.mpr ⟨Nat.max_le.mpr ⟨h1.1.dp, h1.2.dp⟩, k.dp⟩⟩
    have l1 : sz a ≤ W := h1.1.len
    have l2 : sz c ≤ W := h1.2.len
    have l3 := k.len
    rw [szk, List.length_cons, Nat.add_mul]
    omega
theorem RpK.dct {n S : Nat} {ps : List (PyData × PyData)} (h : RpK n S ps) : Rp (n + 1) (S + 3) (.dict ps) := by
  refine ⟨by rw [PyData.showable]; exact h.sh, ?_, by rw [PyData.depth]; exact Nat.succ_le_succ h.dp⟩
  rw [sz]
  have h2 := h.len
  omega
/-! a part of a datum; a list put as a tuple -/
theorem RpS.mem {n S : Nat} : ∀ {es : List PyData}, RpS n S es → ∀ e ∈ es, Rp n S e
  | d :: ds, h, e, he => by
    obtain ⟨h1, h2, h3⟩ := h
    rw [PyData.showableAll, Bool.and_eq_true] at h1
    rw [szs] at h2
    rw [PyData.depthAll] at h3
    rcases List.mem_cons.mp he with rfl | he
    · exact ⟨h1.1, by omega, Nat.le_trans (Nat.le_max_left _ _) h3⟩
    · exact RpS.mem (es := ds) ⟨h1.2, by omega, Nat.le_trans (Nat.le_max_right _ _) h3⟩ e he
theorem Rp.items {n W : Nat} {d : PyData} (h : Rp n W d) : RpS n W (itemsD d) := by
  obtain ⟨h1, h2, h3⟩ := h
  cases d with
  | list ds =>
    rw [PyData.showable] at h1
    rw [sz] at h2
    rw [PyData.depth] at h3
    exact ⟨h1, by show szs ds ≤ _; omega, by show PyData.depthAll ds ≤ _; omega⟩
  | tuple ds =>
    rw [PyData.showable] at h1
    rw [sz] at h2
    rw [PyData.depth] at h3
    exact ⟨h1, by show szs ds ≤ _; omega, by show PyData.depthAll ds ≤ _; omega⟩
  | _ => exact RpS.nil.mono (Nat.le_refl _) (Nat.zero_le _)
theorem rp_dec {d : PyData} {n W : Nat} (h : (d.showable && decide (sz d ≤ W) && decide (d.depth ≤ n)) = true) : Rp n W d := by
  simp only [Bool.and_eq_true, decide_eq_true_eq] at h
  exact ⟨h.1.1, h.1.2, h.2⟩
theorem rp_str {z : Str} (h : z.length ≤ 9) (k : ∀ c ∈ z.cps.toList, c < 128) : Rp 0 92 (.str z) := by
  refine ⟨by simp [PyData.showable], ?_, by simp [PyData.depth]⟩
  show (PyData.str z).shown.length ≤ 92
  rw [PyData.shown]
  have := StrLaws.reprText_len z fun c hc => Nat.lt_of_lt_of_le (k c hc) (by decide)
  omega
theorem rp_ten : ∀ n : Nat, n < 40 → ((PyData.int (ten n)).showable && decide (sz (PyData.int (ten n)) ≤ 41) && decide ((PyData.int (ten n)).depth ≤ 0)) = true ∧ ((PyData.int (-(ten n))).showable && decide (sz (PyData.int (-(ten n))) ≤ 42) && decide ((PyData.int (-(ten n))).depth ≤ 0)) = true := by decide +kernel
theorem asc_128 {c : Nat} (h : c ∈ abc.cps.toList) : c < 128 := by
  have : ∀ c ∈ abc.cps.toList, c < 128 := by decide +kernel
  exact this c h
/-! ### the odd value -/
structure OddG (nm : Str) (d : PyData) : Prop where
  m : okM d
  rp : Rp 3 200 d
  k : dictD d = false ∨ d = .dict [] ∨ d = .dict [(.str nm, .int 1)]
theorem odd_str {nm z : Str} (h : z.length ≤ 9) (k : ∀ c ∈ z.cps.toList, c < 128) : OddG nm (.str z) := ⟨⟨by omega, k⟩, (rp_str h k).mono (by decide) (by decide), .inl rfl⟩
def ok9 (z : Str) : Bool := decide (z.length ≤ 9) && z.cps.toList.all fun c => decide (c < 128)
theorem odd_lit {nm z : Str} (h : ok9 z = true) : OddG nm (.str z) := by
  unfold ok9 at h
  simp only [Bool.and_eq_true, decide_eq_true_eq, List.all_eq_true] at h
  exact odd_str h.1 h.2
theorem odd_good {n : Nat} {nm : Str} (hn : n < 40) (h : NmOk nm) : ∀ d ∈ oddD n nm, OddG nm d := by
  obtain ⟨t1, t2⟩ := rp_ten n hn
  have hn8 : nm.length ≤ 9 := Nat.le_succ_of_le h.2.1
  have ha : ∀ c ∈ nm.cps.toList, c < 128 := fun c hc => asc_128 (h.2.2 c hc)
  have rn := rp_str hn8 ha
  have on : okM (.str nm) := ⟨by omega, ha⟩
  intro d hd
  unfold oddD at hd
  simp only [List.mem_cons, List.not_mem_nil, or_false] at hd
  rcases hd with rfl | rfl | rfl | rfl | rfl | rfl | rfl | rfl | rfl | rfl | rfl | rfl | rfl | rfl | rfl | rfl | rfl | rfl | rfl | rfl | rfl | rfl | rfl | rfl | rfl | rfl | rfl | rfl | rfl | rfl
  · exact ⟨True.intro, rp_dec (by decide +kernel), .inl rfl⟩
  · exact ⟨True.intro, rp_dec (by decide +kernel), .inl rfl⟩
  · exact ⟨True.intro, rp_dec (by decide +kernel), .inl rfl⟩
  · exact ⟨True.intro, (rp_dec t1).mono (by decide) (by decide), .inl rfl⟩
  · exact ⟨True.intro, (rp_dec t2).mono (by decide) (by decide), .inl rfl⟩
  · exact ⟨True.intro, rp_dec (by decide +kernel), .inl rfl⟩
  · exact ⟨True.intro, rp_dec (by decide +kernel), .inl rfl⟩
  · exact ⟨True.intro, rp_dec (by decide +kernel), .inl rfl⟩
  · exact odd_lit (by decide +kernel)
  · exact odd_lit (by decide +kernel)
  · exact odd_str hn8 ha
  · refine odd_str ?_ ?_
    · have e : ("z" : Str).length = 1 := by decide +kernel
      rw [strLen_append, e]
      have := h.2.1
      omega
    · intro c hc
      have e : (nm ++ "z" : Str).cps.toList = nm.cps.toList ++ ("z" : Str).cps.toList := by
        show (nm.cps ++ _).toList = _
        simp
      rw [e] at hc
      rcases List.mem_append.mp hc with q | q
      · exact ha c q
      · have : ∀ c ∈ ("z" : Str).cps.toList, c < 128 := by decide +kernel
        exact this c q
  · exact odd_lit (by decide +kernel)
  · exact odd_lit (by decide +kernel)
  · exact odd_lit (by decide +kernel)
  · exact odd_lit (by decide +kernel)
  · exact odd_lit (by decide +kernel)
  · exact odd_lit (by decide +kernel)
  · exact odd_lit (by decide +kernel)
  · exact odd_lit (by decide +kernel)
  · exact odd_lit (by decide +kernel)
  · exact ⟨⟨by decide, True.intro⟩, rp_dec (by decide +kernel), .inl rfl⟩
  · exact ⟨⟨by decide, True.intro⟩, rp_dec (by decide +kernel), .inl rfl⟩
  · exact ⟨True.intro, rp_dec (by decide +kernel), .inr (.inl rfl)⟩
  · exact ⟨⟨by decide, True.intro, True.intro⟩, rp_dec (by decide +kernel), .inl rfl⟩
  · exact ⟨⟨by decide, True.intro, True.intro⟩, rp_dec (by decide +kernel), .inl rfl⟩
  · exact ⟨⟨by show 1 ≤ 24; decide, on, True.intro⟩, (RpS.tup (RpS.cons rn .nil)).mono (by decide) (by decide), .inl rfl⟩
  · refine ⟨True.intro, (RpK.dct (RpK.all (n := 0) (W := 92) fun p hp => ?_)).mono (by decide) (by show 1 * (2 * 92 + 4) + 3 ≤ 200; decide), .inr (.inr rfl)⟩
    obtain rfl := List.mem_singleton.mp hp
    exact ⟨rn, (rp_dec (by decide +kernel) : Rp 0 92 (PyData.int 1))⟩
  · exact ⟨⟨by show 1 ≤ 24; decide, on, True.intro⟩, (RpS.lst (RpS.cons rn .nil)).mono (by decide) (by decide), .inl rfl⟩
  · exact ⟨⟨by decide, ⟨by decide +kernel, by decide +kernel⟩, ⟨by decide +kernel, by decide +kernel⟩, True.intro, True.intro⟩, rp_dec (by decide +kernel), .inl rfl⟩
/-- a list among the odd values is flat -/
def OddF (nm : Str) (d : PyData) : Prop := (itemsD d).length ≤ 3 ∧ ∀ ds, d = .list ds → ds = [] ∨ ds = [.int 1] ∨ ds = [.str nm]
theorem odd_flat {n : Nat} {nm : Str} : ∀ d ∈ oddD n nm, OddF nm d := by
  intro d hd
  unfold oddD at hd
  simp only [List.mem_cons, List.not_mem_nil, or_false] at hd
  rcases hd with rfl | rfl | rfl | rfl | rfl | rfl | rfl | rfl | rfl | rfl | rfl | rfl | rfl | rfl | rfl | rfl | rfl | rfl | rfl | rfl | rfl | rfl | rfl | rfl | rfl | rfl | rfl | rfl | rfl | rfl
  all_goals
    refine ⟨by simp [itemsD], fun ds e => ?_⟩
    first
    | (cases e; done)
    | (cases e; first | exact .inl rfl | exact .inr (.inl rfl) | exact .inr (.inr rfl))
/-- a heap without some places -/
noncomputable def msk (F : Addr → Prop) (H : Hp) : Hp := fun a => @ite _ (F a) (Classical.propDecidable _) none (H a)
theorem mskS {F : Addr → Prop} {H : Hp} {c : Addr} {o : HO} (e : msk F H c = some o) : H c = some o := by
  unfold msk at e
  by_cases h : F c
  · rw [if_pos h] at e
    cases e
  · rw [if_neg h] at e
    exact e
theorem mskI {F : Addr → Prop} {H : Hp} {c : Addr} {o : HO} (n : ¬ F c) (e : H c = some o) : msk F H c = some o := by
  unfold msk
  rw [if_neg n]
  exact e
theorem mskN {F : Addr → Prop} {H : Hp} {c : Addr} {o : HO} (e : msk F H c = some o) : ¬ F c := fun h => by
  unfold msk at e
  rw [if_pos h] at e
  cases e
theorem mskK {F : Addr → Prop} {b : Addr} {H H' : Hp} (k : Keep b H H') : ∀ c o, c ≠ b → msk F H c = some o → msk F H' c = some o := fun c o n e => mskI (mskN e) (k c o n (mskS e))
def spOddQ : Sp := fun vs H Q _ => ∃ (b : Addr) (F : Addr → Prop) (nm : Str), vs = [.ref b, .str nm] ∧ Bag H b ∧ (∀ a, F a → a ≠ b ∧ ∃ o, H a = some o) ∧ NmOk nm ∧ ∀ (v : V) (d : PyData) (H' : Hp), Dq (msk F H') b v d → OddG nm d → OddF nm d → Bag H' b → Keep b H H' → (∀ c, BagAt H b c → BagAt H' b c) → Q v H'
section
variable {P : Program} {w : World} {K : PySem.W.Frag} {mg : Str → Option Value} {base : Heap}
theorem ok_oddQ {f fT : Addr} {fd fdT : FuncData} (F : Fun K "_law_odd" "_law_odd" sOdd f fd) (GT : FnOk P w K mg base CX0 1 fT fdT ["_law_bag_here", "_law_many"] spTake) (bT : Binds K fdT ["_law_bag_here", "_law_many"] []) (mT : mg "_law_take" = some (.ref fT)) (kT : PySem.W.keepIn K (.ref fT) = true)
    (mi : mg "int" = none) (ml : mg "len" = none) : FnOk P w K mg base CX0 2 f fd ["_law_bag_here", "_law_name"] spOddQ := by
  refine F.ok scO (fun vs H Q E h => ?_) (fun cdv A outer s H vs Q E hr h => ?_)
  · obtain ⟨b, _, nm, rfl, _⟩ := h
    rfl
  · obtain ⟨b, FF, nm, rfl, B, hFF, hnm0, q⟩ := h
    have hnm : NameOk nm := ⟨by have := hnm0.2.1; omega, fun c hc => asc_128 (hnm0.2.2 c hc)⟩
    refine ⟨_, pss_cons (ps_set (i := 2) scO.nd rfl (.inl rfl) (pe_callTy call_int_str (by rfl) mi (by decide +kernel) (pa_cons (pe_op op_add_str pe_str (pe_op op_zeros pe_str (pe_call GT hr (by rfl) mT kT bT .nil pass0 (pa_cons (pv 0) (pa_cons pe_int pa_nil))))) pa_nil)))
      (pss_cons (ps_set (i := 3) scO.nd rfl (.inl rfl) (pe_lstB (pa_cons pe_int (pa_cons pe_int (pa_cons (pe_un un_neg pe_int) (pa_cons (pv 2) (pa_cons (pe_un un_neg (pv 2)) (pa_cons pe_bl (pa_cons pe_bl (pa_cons pe_non (pa_cons pe_str (pa_cons pe_str (pa_cons (pv 1) (pa_cons (pe_op op_add_str (pv 1) pe_str) (pa_cons pe_str pa_nil)))))))))))))))
      (pss_cons (ps_aug (i := 3) scO.nd rfl (.inl rfl) (pe_lstB (pa_cons pe_str (pa_cons pe_str (pa_cons pe_str (pa_cons pe_str pa_nil))))) iop_ext)
      (pss_cons (ps_aug (i := 3) scO.nd rfl (.inl rfl) (pe_lstB (pa_cons pe_str (pa_cons pe_str (pa_cons pe_str (pa_cons pe_str (pa_cons (pe_lstB pa_nil) (pa_cons (pe_tup pa_nil) (pa_cons pe_dnewK (pa_cons (pe_lstB (pa_cons pe_int pa_nil)) (pa_cons (pe_tup (pa_cons pe_int pa_nil)) (pa_cons (pe_tup (pa_cons (pv 1) pa_nil))
          (pa_cons (pe_disp (pps_cons (pv 1) pe_int pps_nil) (by rfl) (by rfl) (fun z => by cases z) (by decide)) (pa_cons (pe_lstB (pa_cons (pv 1) pa_nil)) (pa_cons (pe_tup (pa_cons pe_str (pa_cons pe_str (pa_cons pe_int pa_nil)))) pa_nil)))))))))))))) iop_ext)
      (pss_one (ps_ret (pe_ix ix_list (pv 3) (pe_call GT hr (by rfl) mT kT bT .nil pass0 (pa_cons (pv 0) (pa_cons (pe_callB call_len_seq (by rfl) ml PySem.boot_len (pa_cons (pv 3) pa_nil)) pa_nil))) (fun _ _ => rfl))))))), ?_⟩
    refine ⟨_, rfl, b, 40, rfl, B, by decide, by decide, fun n H1 hn B1 k1 gs1 => ?_⟩
    have hn' : n < 40 := by omega
    obtain ⟨it, il⟩ := int_zeros n hn'
    refine ⟨n, rfl, rfl, by omega, _, _, rfl, rfl, Nat.le_trans (by rw [← strLen_append]; exact il) (by decide), _, _, rfl, it, il, ?_⟩
    refine ⟨_, rfl, _, rfl, _, rfl, _, rfl, _, rfl, _, rfl, _, _, rfl, rfl, ?_, by show 13 ≤ sizeLine; decide, fun p np mp => ?_⟩
    · have h1 := hnm.1
      have h2 : ("z" : Str).length = 1 := by decide +kernel
      have h3 : 101 ≤ sizeLine := by decide
      rw [h2]
      omega
    have pb : p ≠ b := by
      obtain ⟨o, e⟩ := B1.at_b
      exact (ne_of_none e np).symm
    dsimp only
    refine cutK (fun σ' H2 => σ' = [some (.ref b), some (.str nm), some (.int (ten n)), some (.ref p)] ∧ Same H1 H2 ∧ H2 p = some (.lst (odd17 n nm))) ?_ (fun k => ?_)
    · rintro σ' H2 ⟨rfl, s2, hp⟩
      have B2 : Bag H2 b := B1.same s2
      obtain ⟨ob, hb⟩ := B2.at_b
      refine ⟨_, rfl, Nat.zero_le _, fun a1 n1 m1 => ?_⟩
      refine ⟨Nat.zero_le _, fun a2 n2 => ?_⟩
      refine fun a3 n3 => ?_
      refine ⟨by show 1 ≤ sizeLine; decide, fun a4 n4 m4 => ?_⟩
      refine ⟨by show 1 ≤ sizeLine; decide, fun a5 n5 => ?_⟩
      refine ⟨_, rfl, by show 1 ≤ sizeLine; decide, fun a6 n6 => ?_⟩
      refine fun a7 n7 => ?_
      refine ⟨_, rfl, upd_same, [(Sum.inr nm, .int 1)], rfl, by show 1 ≤ 15; decide, ?_⟩
      refine ⟨_, rfl, by show 1 ≤ sizeLine; decide, fun a8 n8 m8 => ?_⟩
      refine ⟨by show 3 ≤ sizeLine; decide, fun a9 n9 => ?_⟩
      refine ⟨by show 13 ≤ sizeLine; decide, fun p3 n10 _ => ?_⟩
      have t1 := same_upd (o := .lst []) n1
      have t2 := same_upd (o := .tup []) n2
      have t3 := same_upd (o := .dK []) n3
      have t4 := same_upd (o := .lst [.int 1]) n4
      have t5 := same_upd (o := .tup [.int 0]) n5
      have t6 := same_upd (o := .tup [.str nm]) n6
      have t7 := same_twice (o := .dK []) (u := .dK [(Sum.inr nm, .int 1)]) n7
      have t8 := same_upd (o := .lst [.str nm]) n8
      have t9 := same_upd (o := .tup [.str "", .str "", .int 0]) n9
      have t10 := same_upd (o := .lst [.str "plain", .str "high", .str "low", .str "Plain", .ref a1, .ref a2, .ref a3, .ref a4, .ref a5, .ref a6, .ref a7, .ref a8, .ref a9]) n10
      have p0 : ∃ u, H2 p = some u := ⟨_, hp⟩
      have p1 := there t1 p0
      have p2 := there t2 p1
      have p3' := there t3 p2
      have p4 := there t4 p3'
      have p5 := there t5 p4
      have p6 := there t6 p5
      have p7 := there t7 p6
      have p8 := there t8 p7
      have c0 : ∃ u, H2 b = some u := ⟨_, hb⟩
      have c1 := there t1 c0
      have c2 := there t2 c1
      have c3 := there t3 c2
      have c4 := there t4 c3
      have c5 := there t5 c4
      have c6 := there t6 c5
      have c7 := there t7 c6
      have c8 := there t8 c7
      have e0 : ∀ a, FF a → ∃ u, H2 a = some u := fun a ha => by
        obtain ⟨n, u, e⟩ := hFF a ha
        exact ⟨u, s2 _ _ (k1 _ _ n e)⟩
      have e1 : ∀ a, FF a → ∃ u, _ = some u := fun a ha => there t1 (e0 a ha)
      have e2 : ∀ a, FF a → ∃ u, _ = some u := fun a ha => there t2 (e1 a ha)
      have e3 : ∀ a, FF a → ∃ u, _ = some u := fun a ha => there t3 (e2 a ha)
      have e4 : ∀ a, FF a → ∃ u, _ = some u := fun a ha => there t4 (e3 a ha)
      have e5 : ∀ a, FF a → ∃ u, _ = some u := fun a ha => there t5 (e4 a ha)
      have e6 : ∀ a, FF a → ∃ u, _ = some u := fun a ha => there t6 (e5 a ha)
      have e7 : ∀ a, FF a → ∃ u, _ = some u := fun a ha => there t7 (e6 a ha)
      have e8 : ∀ a, FF a → ∃ u, _ = some u := fun a ha => there t8 (e7 a ha)
      have off : ∀ {G : Hp} {q : Addr}, (∀ a, FF a → ∃ u, G a = some u) → G q = none → ¬ FF q := fun {G q} e n h => by
        obtain ⟨_, e⟩ := e q h
        rw [n] at e
        cases e
      have o1 := off e0 n1
      have o2 := off e1 n2
      have o3 := off e2 n3
      have o4 := off e3 n4
      have o5 := off e4 n5
      have o6 := off e5 n6
      have o7 := off e6 n7
      have o8 := off e7 n8
      have o9 := off e8 n9
      have hp9 := t9 _ _ (t8 _ _ (t7 _ _ (t6 _ _ (t5 _ _ (t4 _ _ (t3 _ _ (t2 _ _ (t1 _ _ hp))))))))
      have pp3 := ne_of_none hp9 n10
      refine ⟨p, p3, _, _, rfl, rfl, by rw [upd_ne pp3]; exact hp9, upd_same, by show 30 ≤ sizeLine; decide, ?_⟩
      have K9 : Keep p _ (upd _ p (.lst (odd30 n nm a1 a2 a3 a4 a5 a6 a7 a8 a9))) := (Keep.same (p := p) t10).trans Keep.upd
      have K8 := (Keep.same (p := p) t9).trans K9
      have K7 := (Keep.same (p := p) t8).trans K8
      have K6 := (Keep.same (p := p) t7).trans K7
      have K5 := (Keep.same (p := p) t6).trans K6
      have K4 := (Keep.same (p := p) t5).trans K5
      have K3 := (Keep.same (p := p) t4).trans K4
      have K2 := (Keep.same (p := p) t3).trans K3
      have K1 := (Keep.same (p := p) t2).trans K2
      have K0 := (Keep.same (p := p) t1).trans K1
      obtain ⟨g1, b1⟩ := item n1 p0 c0 K1
      obtain ⟨g2, b2⟩ := item n2 p1 c1 K2
      obtain ⟨g3, b3⟩ := item n3 p2 c2 K3
      obtain ⟨g4, b4⟩ := item n4 p3' c3 K4
      obtain ⟨g5, b5⟩ := item n5 p4 c4 K5
      obtain ⟨g6, b6⟩ := item n6 p5 c5 K6
      have b7 : a7 ≠ b := by
        obtain ⟨u, e⟩ := c6
        exact (ne_of_none e n7).symm
      have g7 := K7 a7 _ (by
        obtain ⟨u, e⟩ := p6
        exact (ne_of_none e n7).symm) upd_same
      obtain ⟨g8, b8⟩ := item n8 p7 c7 K8
      obtain ⟨g9, b9⟩ := item n9 p8 c8 K9
      have sf : Same H1 _ := fun a o e => K0 a o (ne_of_none e np) (s2 a o e)
      have Bf := B1.same sf
      refine ⟨_, rfl, _, rfl, _, rfl, p, _, rfl, .inl (SqL.of upd_same), b, 30, rfl, Bf, by decide, by decide, fun r H' r1 B' k' gs2 => ?_⟩
      have hD := odd_all (n := n) (nm := nm) (mskI o1 g1) b1 m1 (mskI o2 g2) b2 (mskI o3 g3) b3 (mskI o4 g4) b4 m4 (mskI o5 g5) b5 (mskI o6 g6) b6 (mskI o7 g7) b7 (mskI o8 g8) b8 m8 (mskI o9 g9) b9
      have hr30 : r < (odd30 n nm a1 a2 a3 a4 a5 a6 a7 a8 a9).length := by show r < 30; omega
      obtain ⟨d, md, dq⟩ := hD.get (List.getElem?_eq_getElem hr30)
      refine ⟨p, odd30 n nm a1 a2 a3 a4 a5 a6 a7 a8 a9, r, _, rfl, rfl, SqL.of (k' p _ pb upd_same), atI_nat (List.getElem?_eq_getElem hr30), ?_⟩
      refine q _ d H' (dq.mono (mskK k')) (odd_good hn' hnm0 d md) (odd_flat d md) B' ((k1.trans (Keep.same sf)).trans k') fun c hc => gs2 c ((gs1 c hc).same sf)
    · refine ⟨_, rfl, by show 4 ≤ sizeLine; decide, fun p2 np2 _ => ?_⟩
      have pp2 : p ≠ p2 := ne_of_none upd_same np2
      refine ⟨p, p2, _, _, rfl, rfl, by rw [upd_ne pp2]; exact upd_same, upd_same, by show 17 ≤ sizeLine; decide, ?_⟩
      refine k _ _ ⟨rfl, fun a o e => ?_, upd_same⟩
      have z1 : a ≠ p := ne_of_none e np
      have z2 : a ≠ p2 := ne_of_none (by rw [upd_ne z1]; exact e) np2
      rw [upd_ne z1, upd_ne z2, upd_ne z1]
      exact e
end
end Fv


set_option Elab.async false
set_option linter.all false
set_option maxRecDepth 100000
set_option maxHeartbeats 4000000
namespace Fv
open PySem PySem.Spec PyProof.Rows L2
theorem rp_small {z : Str} (h : z.length ≤ 9) (k : asc z) : Rp 0 100 (.str z) := by
  refine ⟨by simp [PyData.showable], ?_, by simp [PyData.depth]⟩
  show (PyData.str z).shown.length ≤ 100
  rw [PyData.shown]
  have := StrLaws.reprText_len z fun c hc => Nat.lt_of_lt_of_le (asc_128 (k c hc)) (by decide)
  omega
theorem Rp.fine {n W : Nat} {d : PyData} (h : Rp n W d) (hn : n ≤ 3) (hw : W ≤ 20000) : Fine d := ⟨h.sh, Nat.le_trans (sz_le d) (Nat.le_trans h.len hw), Nat.le_trans h.dp hn⟩
theorem str_lay {z : Str} (k : asc z) : PyData.strOk z = true := by
  unfold PyData.strOk
  rw [← Array.all_toList, List.all_eq_true]
  exact fun c hc => decide_eq_true (Nat.lt_of_lt_of_le (asc_128 (k c hc)) (by decide))
theorem strs_lay : ∀ {zs : List Str}, (∀ z ∈ zs, asc z) → PyData.canLayAll0 (zs.map PyData.str) = true
  | [], _ => rfl
  | z :: zs, h => by
    rw [List.map_cons]
    unfold PyData.canLayAll0
    rw [strs_lay fun y hy => h y (List.mem_cons_of_mem _ hy), Bool.and_true]
    exact str_lay (h z List.mem_cons_self)
/-- a text that is short and of letters -/
def ShS (z : Str) : Prop := z.length ≤ 9 ∧ asc z
theorem NmOk.sh {z : Str} (h : NmOk z) : ShS z := ⟨by have := h.2.1; omega, h.2.2⟩
theorem sh_lit {z : Str} (h : (decide (z.length ≤ 9) && z.cps.toList.all fun c => decide (c ∈ abc.cps.toList)) = true) : ShS z := by
  simp only [Bool.and_eq_true, decide_eq_true_eq, List.all_eq_true] at h
  exact ⟨h.1, fun c hc => h.2 c hc⟩
theorem two_flat {z : Str} {e : PyData} {n W : Nat} (hz : ShS z) (he : Rp n W e) (hn : n ≤ 1) (hw : W ≤ 10000) (hl : e.canLay0 = true) : Flat (.tuple [.str z, e]) := by
  have r : Rp (n + 1) (100 + 2 + (W + 2 + 0) + 3) (.tuple [.str z, e]) := (RpS.cons ((rp_small hz.1 hz.2).mono (Nat.zero_le _) (Nat.le_refl _)) (RpS.cons he RpS.nil)).tup
  refine ⟨r.fine (by omega) (by omega), ?_⟩
  unfold SeqAt.shaped
  rw [Bool.and_eq_true]
  refine ⟨?_, decide_eq_true (Nat.le_trans r.dp (by omega))⟩
  show PyData.canLayAll0 [.str z, e] = true
  unfold PyData.canLayAll0
  unfold PyData.canLayAll0
  rw [hl, show (PyData.str z).canLay0 = true from str_lay hz.2]
  rfl
theorem src_sh {z : Str} (h : sourceD (.str z) = true) : ShS z := by
  unfold sourceD at h
  rcases Bool.or_eq_true_iff.mp h with h | h
  · exact (nm_of h).sh
  · have e : z.length = 0 := of_decide_eq_true h
    have hz : z.cps.toList = [] := List.eq_nil_of_length_eq_zero (by rw [Array.length_toList]; exact e)
    exact ⟨by omega, fun c hc => by rw [hz] at hc; cases hc⟩
theorem fact_sh {f : FaT} (h : factD (faD f) = true) : ShS f.1 ∧ ShS f.2.1 := by
  have h : (sourceD (.str f.1) && sourceD (.str f.2.1) && intD (.int f.2.2)) = true := h
  rw [Bool.and_eq_true, Bool.and_eq_true] at h
  exact ⟨src_sh h.1.1, src_sh h.1.2⟩
theorem int_rp {i : Int} (h : (PyData.int i).showable = true ∧ (PyData.int i).shown.length ≤ 9000) : Rp 0 9000 (.int i) := ⟨h.1, h.2, by simp [PyData.depth]⟩
theorem OutF.flat {r0 r1 : Bool} {zs : List Str} {L : List FaT} {o : PyData} (h : OutF r0 r1 zs L o) (hz : ∀ z ∈ zs, NmOk z) (zl : zs.length ≤ 6) (hL : ∀ f ∈ L, ShS f.1 ∧ ShS f.2.1) : Flat o := by
  rcases h with ⟨_, rfl⟩ | ⟨_, _, rfl⟩ | ⟨_, _, u, ⟨i, f, hf, _, hu⟩, rfl⟩ | ⟨_, _, _, _, rfl⟩ | ⟨_, _, _, _, ys, p, _, rfl⟩
  · exact two_flat (sh_lit (by decide +kernel)) (int_rp (by decide +kernel)) (by decide) (by decide) rfl
  · exact two_flat (sh_lit (by decide +kernel)) (int_rp (by decide +kernel)) (by decide) (by decide) rfl
  · have hs := hL f (List.mem_of_getElem? hf)
    have su : ShS u := by
      rcases hu with ⟨rfl, _⟩ | ⟨_, rfl, _⟩
      · exact hs.1
      · exact hs.2
    exact two_flat (sh_lit (by decide +kernel)) (rp_small su.1 su.2) (by decide) (by decide) (str_lay su.2)
  · exact two_flat (sh_lit (by decide +kernel)) (int_rp (by decide +kernel)) (by decide) (by decide) rfl
  · have hy : ∀ y ∈ ys, ShS y := fun y hy => (hz y (p.mem_iff.mp hy)).sh
    have rl : Rp 1 (6 * (100 + 2) + 3) (.list (ys.map PyData.str)) := (RpS.upTo (L := 6) (fun e he => by
      obtain ⟨y, hy', rfl⟩ := List.mem_map.mp he
      exact rp_small (hy y hy').1 (hy y hy').2) (by rw [List.length_map, p.length_eq]; exact zl)).lst
    exact two_flat (sh_lit (by decide +kernel)) rl (by decide) (by decide) (strs_lay fun y h => (hy y h).2)
end Fv


set_option Elab.async false
set_option linter.all false
set_option maxRecDepth 100000
set_option maxHeartbeats 4000000
namespace Fv
open PySem PySem.Spec PyProof.Rows L2
/-! ### Facts(["a"]) -/
def spRowT (K : PySem.W.Frag) : Sp := fun vs H Q _ => ∃ a o, vs = [.ref a] ∧ K.lookup a = some o ∧ o.cls = .type "tuple" ∧ ∀ H', Same H H' → Q (.bl true) H'
def spAreF (K : PySem.W.Frag) : Sp := fun vs H Q _ => ∃ a o, vs = [.ref a] ∧ K.lookup a = some o ∧ o.cls = .type "tuple" ∧ (∀ H, SqT K H a []) ∧ ∀ H', Same H H' → Q (.bl true) H'
def spTight0 (K : PySem.W.Frag) : Sp := fun vs H Q _ => ∃ a, vs = [.ref a] ∧ (∀ H, SqT K H a []) ∧ ∀ H' p, Same H H' → H p = none → H' p = some (.dK []) → Q (.ref p) H'
section
variable {P : Program} {w : World} {K : PySem.W.Frag} {mg : Str → Option Value} {base : Heap} {C : Addr}
theorem ok_isrowT {f : Addr} {fd : FuncData} (F : Fun K "is_row" "is_row" sIsRow f fd) (mq : mg "isinstance" = none) (ml : mg "list" = none) (mt : mg "tuple" = none) : FnOk P w K mg base CX0 1 f fd ["thing"] (spRowT K) := by
  refine F.ok sc5 (fun vs H Q E h => ?_) (fun cdv A outer s H vs Q E hr h => ?_)
  · obtain ⟨a, o, rfl, _⟩ := h
    rfl
  · obtain ⟨a, o, rfl, hk, hc, q⟩ := h
    refine ⟨_, pss_one (ps_ret (pe_callB call_isiT (by rfl) mq (by decide +kernel) (pa_cons (pv 0) (pa_cons (pe_tup (pa_cons (pe_bltn (v := .ty "list") (by rfl) ml boot_list rfl) (pa_cons (pe_bltn (v := .ty "tuple") (by rfl) mt boot_tuple rfl) pa_nil))) pa_nil)))), ?_⟩
    refine ⟨_, rfl, by show 2 ≤ sizeLine; decide, fun p np => ?_⟩
    exact ⟨_, _, _, _, _, _, rfl, upd_same, .cons (.ty "list") (.cons (.ty "tuple") .nil), .kTuple hk hc, kitAny_cons (r := true) (kit_list (.tuple [])) (fun _ => kitAny_cons (r := true) (kit_tup (.tuple [])) (fun e => by cases e) (fun _ => rfl)) (fun e => by cases e), q _ (same_upd np)⟩
theorem ok_arefacts0 {f fR : Addr} {fd fdR : FuncData} (F : Fun K "_are_facts" "_are_facts" sAreFacts f fd)
    (GR : FnOk P w K mg base CX0 1 fR fdR ["thing"] (spRowT K)) (bR : Binds K fdR ["thing"] []) (mR : mg "is_row" = some (.ref fR)) (kR : PySem.W.keepIn K (.ref fR) = true)
    (ma : mg "all" = none) : FnOk P w K mg base CX0 2 f fd ["thing"] (spAreF K) := by
  refine F.ok scAf (fun vs H Q E h => ?_) (fun cdv A outer s H vs Q E hr h => ?_)
  · obtain ⟨a, o, rfl, _⟩ := h
    rfl
  · obtain ⟨a, o, rfl, hk, hc, ht, q⟩ := h
    refine ⟨_, pss_one (ps_ret (pe_and (pe_call GR hr (by rfl) mR kR bR .nil pass0 (pa_cons (pv 0) pa_nil))
      (pe_one (pe_callB (cr_all rfl) (by rfl) ma (by decide +kernel) (pa_cons
        (pe_lc (own := [("item", 1)]) (g := gName 1) (tt := tYes) rfl scAf.nd (pi_tup (pv 0)) (blkOk_by (N := ["thing", "item"]) (sc := defScope sAreFacts) (by decide +kernel))
        (fun _ _ _ _ _ => pg_name (i := 1) scAf.nd rfl (Or.inl rfl)) (fun _ _ _ _ _ => pts_nil) (fun _ _ _ _ _ => pe_dead)) pa_nil))))), ?_⟩
    refine ⟨_, rfl, a, o, rfl, hk, hc, fun H1 s1 => ⟨_, rfl, ?_⟩⟩
    refine iteT ⟨_, rfl, a, rfl, ⟨_, ht H1⟩, fun D hD => ?_⟩
    refine lc_tup (K := K) (a := a) (xs := []) (fun i H' => Same H1 H' ∧ H' D = some (.lst [])) ⟨same_upd hD, upd_same⟩ (fun i H' _ h => ht H') ?_ ?_
    · intro i x H' hxi
      cases hxi
    · rintro H2 ⟨s2, e2⟩
      exact ⟨D, [], rfl, SqL.of e2, q H2 (s1.trans s2)⟩
theorem ok_tight0 {f : Addr} {fd : FuncData} (F : Fun K "_tightest" "_tightest" sTight f fd) : FnOk P w K mg base CX0 1 f fd ["facts"] (spTight0 K) := by
  refine F.ok scTg (fun vs H Q E h => ?_) (fun cdv A outer s H vs Q E hr h => ?_)
  · obtain ⟨a, rfl, _⟩ := h
    rfl
  · obtain ⟨a, rfl, ht, q⟩ := h
    refine ⟨_, pss_cons (ps_set (i := 1) scTg.nd rfl (.inl rfl) pe_dnewK)
      (pss_cons (ps_for PassesOwn.never rfl (pi_tup (pv 0)) (pg_tup (by rfl) (pgs_cons (pg_name (i := 2) scTg.nd rfl (.inl rfl)) (pgs_cons (pg_name (i := 3) scTg.nd rfl (.inl rfl)) (pgs_cons (pg_name (i := 4) scTg.nd rfl (.inl rfl)) pgs_nil)))) pss_dead)
      (pss_one (ps_ret (pv 1)))), ?_⟩
    intro p np
    have w1 := same_upd (o := .dK []) np
    dsimp only [gName]
    refine ⟨_, rfl, a, rfl, ⟨_, ht _⟩, ?_⟩
    refine for_tup (K := K) (a := a) (xs := []) (fun i σ H' => σ = [some (.ref a), some (.ref p), none, none, none] ∧ H' = upd H p (.dK [])) ⟨rfl, rfl⟩ (fun i σ H' _ h => ht H') ?_ ?_
    · intro i x σ H' hx
      cases hx
    · rintro σ H' ⟨rfl, rfl⟩
      exact ⟨_, rfl, q _ p w1 np upd_same⟩
theorem ok_closed0 {f fT : Addr} {fd fdT : FuncData} (F : Fun K "_closed" "_closed" sClosed f fd)
    (GT : FnOk P w K mg base CX0 1 fT fdT ["facts"] (spTight0 K)) (bT : Binds K fdT ["facts"] []) (mT : mg "_tightest" = some (.ref fT)) (kT : PySem.W.keepIn K (.ref fT) = true)
    (mo : mg "sorted" = none) : FnOk P w K mg base CX0 2 f fd ["facts"] (spTight0 K) := by
  refine F.ok scCd (fun vs H Q E h => ?_) (fun cdv A outer s H vs Q E hr h => ?_)
  · obtain ⟨a, rfl, _⟩ := h
    rfl
  · obtain ⟨a, rfl, ht, q⟩ := h
    refine ⟨_, pss_cons (ps_set (i := 1) scCd.nd rfl (.inl rfl) (pe_call GT hr (by rfl) mT kT bT .nil pass0 (pa_cons (pv 0) pa_nil)))
      (pss_cons (ps_for PassesOwn.never rfl (pi_list (pe_callB (r := rSortX P w) (call_sortX rfl) (by rfl) mo (by decide +kernel) (pa_cons
        (pe_op (op_meet0)
          (pe_lock (pe_scX (own := [("x", 6), ("_", 8)]) (g := gTup K 2 (gCons (gName 6) (gCons (gName 8) gNil))) (tt := tYes) rfl scCd.nd (pi_keys (pv 1)) (blkOk_by (N := nCd) (sc := defScope sClosed) (by decide +kernel))
            (fun _ _ _ _ _ => pg_tup (by rfl) (pgs_cons (pg_name (i := 6) scCd.nd rfl (.inl rfl)) (pgs_cons (pg_name (i := 8) scCd.nd rfl (.inl rfl)) pgs_nil))) (fun _ _ _ _ _ => pts_nil) (fun _ _ _ _ _ => pe_dead)))
          (pe_lock (pe_scX (own := [("_", 8), ("y", 7)]) (g := gTup K 2 (gCons (gName 8) (gCons (gName 7) gNil))) (tt := tYes) rfl scCd.nd (pi_keys (pv 1)) (blkOk_by (N := nCd) (sc := defScope sClosed) (by decide +kernel))
            (fun _ _ _ _ _ => pg_tup (by rfl) (pgs_cons (pg_name (i := 8) scCd.nd rfl (.inl rfl)) (pgs_cons (pg_name (i := 7) scCd.nd rfl (.inl rfl)) pgs_nil))) (fun _ _ _ _ _ => pts_nil) (fun _ _ _ _ _ => pe_dead)))) pa_nil))) (pg_name (i := 2) scCd.nd rfl (.inr rfl)) pss_dead)
      (pss_one (ps_ret (pv 1)))), ?_⟩
    refine ⟨_, rfl, a, rfl, ht, fun H1 p s1 np ep => ?_⟩
    dsimp only [gName]
    have sc0 : ∀ {H1 : Hp} {od : Obj} {g : TG} {vs : List Nat} {σ : L2.St} {Qd : Hp → Prop} {D : Addr}, H1 p = some (.frz od (.dK [])) → D ≠ p → (Qd (upd H1 D (TxtO P w D []))) →
      ∃ W : Nat → Nat → Hp → Prop, (∃ m, W 0 m (upd H1 D (TxtO P w D []))) ∧ ∀ i m H, W i m H →
      ((Itk p od []).stop i H ∧ Qd H) ∨ ((Itk p od []).go i H ∧ ∃ Nx : Hp → Prop, (∀ H', Nx H' → ∃ m', m' < m ∧ W (i + 1) m' H') ∧ ∀ x H', (Itk p od []).yld i H x H' → g x (wipe σ vs) H' fun σ2 H2 => wipe σ2 vs = wipe σ vs ∧ tYes σ2 H2 fun b H3 =>
        if b = true then tDead σ2 H3 fun y H4 => ∃ (z : Str) (L : List Str), y = .str z ∧ H4 D = some (TxtO P w D L) ∧ L.length + 1 < scanBound ∧ Nx (upd H4 D (TxtO P w D (insL L z))) else Nx H3) := fun {H1 od g vs σ Qd D} e n q => by
      refine sc_it (walk_keys (d := p) (o := od) (kvs := [])) (fun i H' => H' = upd H1 D (TxtO P w D [])) rfl (fun i H' _ h => ?_) ?_ ?_
      · rw [h, upd_ne n.symm]
        exact e
      · intro i x H H' hi
        exact absurd hi (Nat.not_lt_zero i)
      · rintro H' rfl
        exact q
    refine ⟨p, .dK [], ep, True.intro, fun od => ?_⟩
    refine ⟨_, rfl, p, od, rfl, .inl ⟨[], upd_same, fun D nD => ?_⟩⟩
    have Dp : D ≠ p := fun z => by
      rw [z, upd_same] at nD
      cases nD
    refine sc0 upd_same Dp ⟨by rw [upd_ne Dp.symm]; exact upd_same, ?_⟩
    have D1 : H1 D = none := by rw [upd_ne Dp] at nD; exact nD
    obtain ⟨H2, eH2⟩ : ∃ H2, H2 = upd (upd (upd H1 p (.frz od (.dK []))) D (TxtO P w D [])) p (.dK []) := ⟨_, rfl⟩
    rw [← eH2]
    have s2 : Same H1 H2 := fun c o e => by
      rw [eH2]
      by_cases z : c = p
      · subst z
        rw [upd_same, ← e, ep]
      · rw [upd_ne z, upd_ne (ne_of_none e D1), upd_ne z]
        exact e
    have eD2 : H2 D = some (TxtO P w D []) := by rw [eH2, upd_ne Dp, upd_same]
    have ep2 := s2 _ _ ep
    clear eH2 nD
    refine ⟨p, .dK [], ep2, True.intro, fun od2 => ?_⟩
    refine ⟨_, rfl, p, od2, rfl, .inl ⟨[], upd_same, fun D2 nD2 => ?_⟩⟩
    have D2p : D2 ≠ p := fun z => by
      rw [z, upd_same] at nD2
      cases nD2
    refine sc0 upd_same D2p ⟨by rw [upd_ne D2p.symm]; exact upd_same, ?_⟩
    have D21 : H2 D2 = none := by rw [upd_ne D2p] at nD2; exact nD2
    obtain ⟨H3, eH3⟩ : ∃ H3, H3 = upd (upd (upd H2 p (.frz od2 (.dK []))) D2 (TxtO P w D2 [])) p (.dK []) := ⟨_, rfl⟩
    rw [← eH3]
    have s3 : Same H2 H3 := fun c o e => by
      rw [eH3]
      by_cases z : c = p
      · subst z
        rw [upd_same, ← e, ep2]
      · rw [upd_ne z, upd_ne (ne_of_none e D21), upd_ne z]
        exact e
    have eD23 : H3 D2 = some (TxtO P w D2 []) := by rw [eH3, upd_ne D2p, upd_same]
    have DD : D ≠ D2 := ne_of_none eD2 D21
    refine ⟨D, D2, rfl, rfl, DD, s3 _ _ eD2, eD23, fun M nM => ?_⟩
    have s4 := same_upd (o := TxtO P w M []) nM
    refine ⟨M, [], rfl, upd_same, by decide, fun ys L perm srt nL wL => ?_⟩
    obtain rfl : ys = [] := List.perm_nil.mp perm
    have s5 := same_upd (o := .lst ([].map V.str)) nL
    have s15 := ((s2.trans s3).trans s4).trans s5
    refine ⟨L, rfl, ⟨_, SqL.of upd_same⟩, ?_⟩
    refine for_list (K := K) (a := L) (xs := []) (fun i σ H' => σ = [some (.ref a), some (.ref p), none, none, none, none, none, none, none, none, none] ∧ H' = upd (upd H3 M (TxtO P w M [])) L (.lst ([].map V.str))) ⟨rfl, rfl⟩ (fun i σ H' _ h => by rw [h.2]; exact SqL.of upd_same) ?_ ?_
    · intro i x σ H' hx
      cases hx
    · rintro σ H' ⟨rfl, rfl⟩
      exact ⟨_, rfl, q _ p (s1.trans s15) np (s15 _ _ ep)⟩
end
end Fv


set_option Elab.async false
set_option linter.all false
set_option maxRecDepth 100000
set_option maxHeartbeats 4000000
namespace Fv
open PySem PySem.Spec PyProof.Rows L2
/-! ### Facts of names alone -/
def spChkS0 (K : PySem.W.Frag) : Sp := fun vs H Q _ => ∃ (n a : Addr) (zs : List Str), vs = [.ref n, .ref a] ∧ RowAt H n (zs.map V.str) ∧ zs.length ≤ 60 ∧ (∀ H, SqT K H a []) ∧ ∀ H', Same H H' → Q .non H'
def spIni0 (K : PySem.W.Frag) (C : Addr) : Sp := fun vs H Q _ => ∃ (x n a dx : Addr) (o : Obj) (zs : List Str), vs = [.ref x, .ref n, .ref a] ∧ H x = some (.ins C dx []) ∧ H n = some (.lst (zs.map V.str)) ∧ n ≠ x ∧ K.lookup a = some o ∧ o.cls = .type "tuple" ∧ (∀ H, SqT K H a []) ∧ (∀ z ∈ zs, NmOk z) ∧ zs.Nodup ∧ zs.length ≤ 6 ∧
  ∀ (H' : Hp) (r r2 : Addr) (ys : List Str), H' x = some (.ins C dx [(("_names" : Str), .ref r), (("_table" : Str), .ref r2)]) → H' r = some (.lst (ys.map V.str)) → ys.Perm zs → SameX x H H' → Q .non H'
def spNm0 (C : Addr) : Sp := fun vs H Q _ => ∃ (x dx r r2 : Addr) (zs : List Str), vs = [.ref x] ∧ H x = some (.ins C dx [(("_names" : Str), .ref r), (("_table" : Str), .ref r2)]) ∧ H r = some (.lst (zs.map V.str)) ∧ ∀ p, H p = none → p ≠ sysModules → Q (.ref p) (upd H p (.lst (zs.map V.str)))
section
variable {P : Program} {w : World} {K : PySem.W.Frag} {mg : Str → Option Value} {base : Heap} {C : Addr}
theorem ok_nm0 {f : Addr} {fd : FuncData} (T : FacC K C) (F : Fun K "names" "Facts.names" sNamesM f fd) (mL : mg "list" = none) : FnOk P w K mg base CX0 1 f fd ["self"] (spNm0 C) := by
  refine F.ok scNm (fun vs H Q E h => ?_) (fun cdv A outer s H vs Q E hr h => ?_)
  · obtain ⟨x, dx, r, r2, zs, rfl, _⟩ := h
    rfl
  · obtain ⟨x, dx, n, q0, zs, rfl, h1, h4, q⟩ := h
    refine ⟨_, pss_one (ps_ret (pe_callTy (r := rListL K) call_listL (by rfl) mL boot_list (pa_cons (pe_fld (pv 0) rfl) pa_nil))), ?_⟩
    exact ⟨_, rfl, x, C, dx, _, _, rfl, h1, T.cl, T.n1, rfl, n, _, rfl, SqL.of h4, fun l nl wl => q l nl wl⟩
theorem ok_chks0 {f : Addr} {fd : FuncData} (F : Fun K "_check_sources" "_check_sources" sChkSrc f fd) : FnOk P w K mg base CX0 1 f fd ["names", "facts"] (spChkS0 K) := by
  refine F.ok scCs (fun vs H Q E h => ?_) (fun cdv A outer s H vs Q E hr h => ?_)
  · obtain ⟨n, a, zs, rfl, _⟩ := h
    rfl
  · obtain ⟨n, a, zs, rfl, hn, hz, ht, q⟩ := h
    refine ⟨_, pss_cons (ps_setDc (i := 2) (own := [("name", 7)]) (g := gName 7) (tt := tYes) rfl scCs.nd rfl rfl (swD_true rfl rfl rfl (by decide +kernel)) (pi_rowA (pv 0)) (blkOk_by (N := nCs) (sc := defScope sChkSrc) (by decide +kernel))
        (fun _ _ _ _ _ => pg_name (i := 7) scCs.nd rfl (Or.inl rfl)) (fun _ _ _ _ _ => pts_nil) (fun _ _ _ _ _ => pv 7) (fun _ _ _ _ _ => pe_bl))
      (pss_one (ps_for PassesOwn.never rfl (pi_tup (pv 1)) (pg_tup (by rfl) (pgs_cons (pg_name (i := 3) scCs.nd rfl (.inl rfl)) (pgs_cons (pg_name (i := 4) scCs.nd rfl (.inl rfl)) (pgs_cons (pg_name (i := 5) scCs.nd rfl (.inl rfl)) pgs_nil)))) pss_dead)), ?_⟩
    refine ⟨_, rfl, n, _, rfl, hn, fun J G wk hG D hD => ?_⟩
    have stN : ∀ {H' : Hp}, Same H H' → G H' := fun {H'} s => hG H' (by
      obtain ⟨o, e⟩ := hn.ex
      rw [s _ _ e, e])
    refine dc_it wk (fun i H' => Same H H' ∧ H' D = some (.dK (dkOf (zs.take i)))) ⟨same_upd hD, upd_same⟩ (fun i H' _ h => stN h.1) ?_ ?_
    · rintro i x H' H2 hi ⟨s', e'⟩ ⟨rfl, hxi⟩
      obtain ⟨z, hzi, rfl⟩ : ∃ z, zs[i]? = some z ∧ x = .str z := by
        rw [List.getElem?_map] at hxi
        cases e : zs[i]? with
        | none => rw [e] at hxi; cases hxi
        | some z => rw [e] at hxi; cases hxi; exact ⟨z, rfl, rfl⟩
      have et : zs.take (i + 1) = zs.take i ++ [z] := by rw [List.take_succ, hzi]; rfl
      refine ⟨rfl, _, rfl, _, Sum.inr z, rfl, e', ?_, fun c o e => ?_, ?_⟩
      · exact Nat.lt_of_le_of_lt (dkOf_both _ _ rfl).1 (small60 (by rw [List.length_take]; omega))
      · rw [upd_ne (ne_of_none e hD)]
        exact s' c o e
      · rw [upd_same, et, dkOf_snoc]
    · rintro H1 ⟨s1, e1⟩
      dsimp only [gName]
      refine ⟨_, rfl, a, rfl, ⟨_, ht _⟩, ?_⟩
      refine for_tup (K := K) (a := a) (xs := []) (fun i σ H' => H' = H1) rfl (fun i σ H' _ h => ht H') ?_ ?_
      · intro i x σ H' hx
        cases hx
      · rintro σ H' rfl
        exact q _ s1
theorem ok_ini0 {f fC fM fA fS fD : Addr} {fd fdC fdM fdA fdS fdD : FuncData} {dvs : List V} (F : FunD K "__init__" "Facts.__init__" (defArgs sInit) (defBody sInit) (defScope sInit) dvs [] f fd) (T : FacC K C)
    (GC : FnOk P w K mg base CX0 1 fC fdC ["rights"] spChk) (bC : Binds K fdC ["rights"] []) (mC : mg "check_arguments" = some (.ref fC)) (kC : PySem.W.keepIn K (.ref fC) = true)
    (GM : FnOk P w K mg base CX0 2 fM fdM ["thing"] (spX C namesD)) (bM : Binds K fdM ["thing"] []) (mM : mg "are_names" = some (.ref fM)) (kM : PySem.W.keepIn K (.ref fM) = true)
    (GA : FnOk P w K mg base CX0 2 fA fdA ["thing"] (spAreF K)) (bA : Binds K fdA ["thing"] []) (mA : mg "_are_facts" = some (.ref fA)) (kA : PySem.W.keepIn K (.ref fA) = true)
    (GS : FnOk P w K mg base CX0 1 fS fdS ["names", "facts"] (spChkS0 K)) (bS : Binds K fdS ["names", "facts"] []) (mS : mg "_check_sources" = some (.ref fS)) (kS : PySem.W.keepIn K (.ref fS) = true)
    (GD : FnOk P w K mg base CX0 2 fD fdD ["facts"] (spTight0 K)) (bD : Binds K fdD ["facts"] []) (mD : mg "_closed" = some (.ref fD)) (kD : PySem.W.keepIn K (.ref fD) = true)
    (mo : mg "sorted" = none) : FnOk P w K mg base CX0 3 f fd ["self", "names", "facts"] (spIni0 K C) := by
  refine F.ok scIni (fun vs H Q E h => ?_) (fun cdv A outer s H vs Q E hr h => ?_)
  · obtain ⟨x, n, a, dx, o, zs, rfl, _⟩ := h
    rfl
  · obtain ⟨x, n, a, dx, o, zs, rfl, hx, hn, nx, hk, hc, ht, hz, nd, zl, q⟩ := h
    have hr1 : Room 1 _ := hr.mono (by decide)
    refine ⟨_, pss_cons (ps_expr (pe_call GC hr1 (by rfl) mC kC bC .nil pass0 (pa_cons (pe_lst (pa_cons (pe_call GM hr (by rfl) mM kM bM .nil pass0 (pa_cons (pv 1) pa_nil)) (pa_cons (pe_call GA hr (by rfl) mA kA bA .nil pass0 (pa_cons (pv 2) pa_nil)) pa_nil))) pa_nil)))
      (pss_cons (ps_expr (pe_call GS hr1 (by rfl) mS kS bS .nil pass0 (pa_cons (pv 1) (pa_cons (pv 2) pa_nil))))
      (pss_cons (ps_fld (pv 0) (pe_callB (r := rSortB K) call_sortB (by rfl) mo (by decide +kernel) (pa_cons (pv 1) pa_nil)) rfl)
      (pss_one (ps_fld (pv 0) (pe_call GD hr (by rfl) mD kD bD .nil pass0 (pa_cons (pv 2) pa_nil)) rfl)))), ?_⟩
    have hdx : Dx C H x (.ref n) (.list (zs.map PyData.str)) := .lst hn nx names_dx
    refine ⟨_, rfl, x, _, _, rfl, hdx, ⟨by rw [List.length_map]; omega, names_ok hz⟩, ⟨_, hx⟩, fun H1 s1 => ?_⟩
    refine ⟨_, rfl, a, o, rfl, hk, hc, ht, fun H2 s2 => ⟨by show 2 ≤ sizeLine; decide, fun p np => ?_⟩⟩
    rw [names_true hz nd]
    have s3 := same_upd (o := .lst [.bl true, .bl true]) np
    refine ⟨p, rfl, upd_same, fun H4 s4 => ?_⟩
    have s04 := ((s1.trans s2).trans s3).trans s4
    refine ⟨_, rfl, _, rfl, n, a, zs, rfl, .inl (s04 _ _ hn), by omega, ht, fun H5 s5 => ?_⟩
    have s05 := s04.trans s5
    refine ⟨_, rfl, n, zs, rfl, .inl (SqL.of (s05 _ _ hn)), by omega, fun ys r perm srt nr wr => ?_⟩
    have s6 := same_upd (o := .lst (ys.map V.str)) nr
    have s06 := s05.trans s6
    refine ⟨_, rfl, x, C, dx, _, rfl, s06 _ _ hx, T.cl, T.n1, by decide, ?_⟩
    obtain ⟨H7, eH7⟩ : ∃ H7, H7 = upd (upd H5 r (.lst (ys.map V.str))) x (.ins C dx (putF "_names" (.ref r) [])) := ⟨_, rfl⟩
    rw [← eH7]
    have hx7 : H7 x = some (.ins C dx (putF "_names" (.ref r) [])) := by rw [eH7]; exact upd_same
    have k07 : ∀ c u, c ≠ x → H c = some u → H7 c = some u := fun c u n e => by
      rw [eH7, upd_ne n]
      exact s06 _ _ e
    have rx : r ≠ x := fun z => by rw [z, s05 _ _ hx] at nr; cases nr
    have hr7 : H7 r = some (.lst (ys.map V.str)) := by rw [eH7, upd_ne rx]; exact upd_same
    clear eH7
    refine ⟨_, rfl, a, rfl, ht, fun H8 r2 s8 nr2 e8 => ?_⟩
    refine ⟨_, rfl, x, C, dx, _, rfl, s8 _ _ hx7, T.cl, T.n2, by show 1 < 1000; decide, ?_⟩
    exact q _ r r2 ys (by rw [upd_same, fac_made]) (by rw [upd_ne rx]; exact s8 _ _ hr7) perm fun c u n e => by
      rw [upd_ne n]
      exact s8 _ _ (k07 c u n e)
end
end Fv


set_option Elab.async false
set_option linter.all false
set_option maxRecDepth 100000
set_option maxHeartbeats 4000000
namespace Fv
open PySem PySem.Spec PyProof.Rows L2
/-! ### data that are short; lists of data, changed at one place -/
/-- data that are short -/
structure Shd (n W : Nat) (d : PyData) : Prop where
  m : okM d
  rp : Rp n W d
structure ShdS (n S : Nat) (ds : List PyData) : Prop where
  m : okMs ds
  rp : RpS n S ds
theorem Shd.mono {n W m V : Nat} {d : PyData} (h : Shd n W d) (hn : n ≤ m) (hw : W ≤ V) : Shd m V d := ⟨h.m, h.rp.mono hn hw⟩
theorem okMs_of : ∀ {ds : List PyData}, (∀ d ∈ ds, okM d) → okMs ds
  | [], _ => True.intro
  | _ :: _, h => ⟨h _ List.mem_cons_self, okMs_of fun d hd => h d (List.mem_cons_of_mem _ hd)⟩
theorem ShdS.nil {n : Nat} : ShdS n 0 [] := ⟨True.intro, RpS.nil⟩
theorem ShdS.cons {n W S : Nat} {e : PyData} {es : List PyData} (h : Shd n W e) (k : ShdS n S es) : ShdS n (W + 2 + S) (e :: es) := ⟨⟨h.m, k.m⟩, .cons h.rp k.rp⟩
theorem ShdS.upTo {n W L : Nat} {es : List PyData} (h : ∀ e ∈ es, Shd n W e) (hl : es.length ≤ L) : ShdS n (L * (W + 2)) es := ⟨okMs_of fun e he => (h e he).m, .upTo (fun e he => (h e he).rp) hl⟩
theorem ShdS.tup {n S : Nat} {es : List PyData} (h : ShdS n S es) (hl : es.length ≤ 24) : Shd (n + 1) (S + 3) (.tuple es) := ⟨⟨hl, h.m⟩, h.rp.tup⟩
theorem ShdS.lst {n S : Nat} {es : List PyData} (h : ShdS n S es) (hl : es.length ≤ 24) : Shd (n + 1) (S + 3) (.list es) := ⟨⟨hl, h.m⟩, h.rp.lst⟩
theorem shd_str {z : Str} (h : ShS z) : Shd 0 100 (.str z) := ⟨⟨by have := h.1; omega, fun c hc => asc_128 (h.2 c hc)⟩, rp_small h.1 h.2⟩
theorem nat_lenB {n k : Nat} (hk : 1 ≤ k) (h : n < 10 ^ k) : (toString n).length ≤ k := by
  rw [Nat.toString_eq_ofList_toDigits, String.length_ofList]
  exact toDigits_len_pow (by decide) hk h
theorem ilenB {i : Int} {k : Nat} (hk : 1 ≤ k) (h : i.natAbs < 10 ^ k) : (PyData.int i).shown.length ≤ k + 1 := by
  rw [PyData.shown_int, PySem.ofString_length]
  cases i with
  | ofNat n =>
    show (toString n).length ≤ _
    have := nat_lenB hk (show n < 10 ^ k from h)
    omega
  | negSucc n =>
    show ("-" ++ toString (n + 1)).length ≤ _
    rw [String.length_append]
    have := nat_lenB hk (show n + 1 < 10 ^ k from h)
    have e : ("-" : String).length = 1 := by decide +kernel
    omega
theorem shd_int {i : Int} (l : -(10 ^ 41) ≤ i) (u : i ≤ 10 ^ 41) : Shd 0 100 (.int i) := by
  have hn : i.natAbs ≤ 10 ^ 41 := by
    have e : ((10 ^ 41 : Nat) : Int) = 10 ^ 41 := by decide
    omega
  have h2 : i.natAbs < 2 ^ 140 := Nat.lt_of_le_of_lt hn (by decide)
  have hl : i.natAbs.log2 < 140 := by
    by_cases z : i.natAbs = 0
    · rw [z]; decide
    · exact (Nat.log2_lt z).mpr h2
  refine ⟨True.intro, by rw [PyData.showable]; exact decide_eq_true (by omega), ?_, by simp [PyData.depth]⟩
  show (PyData.int i).shown.length ≤ 100
  have := ilenB (i := i) (k := 42) (by decide) (Nat.lt_of_le_of_lt hn (by decide))
  omega
theorem src_shS {zs : List Str} (hz : ∀ z ∈ zs, NmOk z) {u : Str} (h : SrcIn zs u) : ShS u := by
  rcases h with rfl | h
  · exact sh_lit (by decide +kernel)
  · exact (hz u h).sh
theorem shd_fact {x y : Str} {c : Int} (hx : ShS x) (hy : ShS y) (l : -(10 ^ 41) ≤ c) (u : c ≤ 10 ^ 41) : Shd 1 400 (.tuple [.str x, .str y, .int c]) :=
  ((ShdS.cons (shd_str hx) (.cons (shd_str hy) (.cons (shd_int l u) .nil))).tup (by show 3 ≤ 24; decide)).mono (by decide) (by decide)
theorem OddG.shd {nm : Str} {d : PyData} (h : OddG nm d) : Shd 3 200 d := ⟨h.m, h.rp⟩
theorem shd_strs {zs : List Str} (hz : ∀ z ∈ zs, NmOk z) {L : Nat} (hl : zs.length ≤ L) (h24 : L ≤ 24) : Shd 1 (L * (100 + 2) + 3) (.list (zs.map PyData.str)) :=
  (ShdS.upTo (n := 0) (W := 100) (L := L) (fun e he => by
    obtain ⟨z, hm, rfl⟩ := List.mem_map.mp he
    exact shd_str (hz z hm).sh) (by rw [List.length_map]; exact hl)).lst (by rw [List.length_map]; omega)
/-! lists of data -/
theorem DqAll.app {H : Hp} {b : Addr} : ∀ {xs ys : List V} {ds es : List PyData}, DqAll H b xs ds → DqAll H b ys es → DqAll H b (xs ++ ys) (ds ++ es)
  | _, _, _, _, .nil, k => k
  | _, _, _, _, .cons h t, k => .cons h (DqAll.app t k)
theorem DqAll.take {H : Hp} {b : Addr} : ∀ {xs : List V} {ds : List PyData} (i : Nat), DqAll H b xs ds → DqAll H b (xs.take i) (ds.take i)
  | _, _, 0, _ => .nil
  | _, _, _ + 1, .nil => .nil
  | _, _, i + 1, .cons h t => .cons h (DqAll.take i t)
theorem DqAll.drop {H : Hp} {b : Addr} : ∀ {xs : List V} {ds : List PyData} (i : Nat), DqAll H b xs ds → DqAll H b (xs.drop i) (ds.drop i)
  | _, _, 0, h => h
  | _, _, _ + 1, .nil => .nil
  | _, _, i + 1, .cons _ t => DqAll.drop i t
theorem DqAll.set {H : Hp} {b : Addr} : ∀ {xs : List V} {ds : List PyData} (i : Nat) {v : V} {d : PyData}, DqAll H b xs ds → Dq H b v d → DqAll H b (xs.set i v) (ds.set i d)
  | _, _, _, _, _, .nil, _ => .nil
  | _, _, 0, _, _, .cons _ t, k => .cons k t
  | _, _, i + 1, _, _, .cons h t, k => .cons h (DqAll.set i t k)
theorem DqAll.ln {H : Hp} {b : Addr} : ∀ {xs : List V} {ds : List PyData}, DqAll H b xs ds → xs.length = ds.length
  | _, _, .nil => rfl
  | _, _, .cons _ t => by rw [List.length_cons, List.length_cons, DqAll.ln t]
theorem Its.dq {H : Hp} {b : Addr} (hb : ∀ ys, H b ≠ some (.tup ys)) : ∀ {xs : List V} {L : List FaT}, Its H xs L → DqAll H b xs (L.map faD)
  | [], [], _ => .nil
  | [], _ :: _, h => by cases h.len
  | _ :: _, [], h => by cases h.len
  | x :: xs, f :: L, h => by
    refine .cons ?_ (Its.dq hb ⟨by have := h.len; rw [List.length_cons, List.length_cons] at this; omega, fun i y e => ?_⟩)
    · obtain ⟨g, hg, t, rfl, ht⟩ := h.at_ 0 x rfl
      cases hg
      exact .tup ht (fun z => hb _ (by rw [← z]; exact ht)) (.cons (.str _) (.cons (.str _) (.cons (.int _) .nil)))
    · exact h.at_ (i + 1) y e
theorem mem_set {α : Type} {l : List α} {i : Nat} {a x : α} (h : x ∈ l.set i a) : x = a ∨ x ∈ l := (List.mem_or_eq_of_mem_set h).symm
theorem mem_take {α : Type} {l : List α} {i : Nat} {x : α} (h : x ∈ l.take i) : x ∈ l := List.mem_of_mem_take h
theorem mem_ins {α : Type} {l : List α} {i : Nat} {a x : α} (h : x ∈ l.take i ++ [a] ++ l.drop i) : x = a ∨ x ∈ l := by
  rcases List.mem_append.mp h with h | h
  · rcases List.mem_append.mp h with h | h
    · exact .inr (List.mem_of_mem_take h)
    · exact .inl (List.mem_singleton.mp h)
  · exact .inr (List.mem_of_mem_drop h)
/-! heaps without places -/
theorem Dq.off {H H' : Hp} {b c : Addr} {v : V} {d : PyData} (h : Dq H b v d) (n : H c = none) (s : Same H H') : Dq (del H' c) b v d := h.mono fun a o _ e => in_del s n a o e
theorem DqAll.off {H H' : Hp} {b c : Addr} {v : List V} {d : List PyData} (h : DqAll H b v d) (n : H c = none) (s : Same H H') : DqAll (del H' c) b v d := h.mono fun a o _ e => in_del s n a o e
theorem del_same' {H H' : Hp} {c : Addr} (s : Same H H') : Same (del H c) (del H' c) := fun a o e => by
  have n : a ≠ c := fun z => by rw [z, del_same] at e; cases e
  rw [del_ne n]
  exact s a o (del_sub _ _ e)
theorem del_keep {b h : Addr} {H H' : Hp} (k : ∀ c o, c ≠ b → H c = some o → H' c = some o) : ∀ c o, c ≠ b → del H h c = some o → del H' h c = some o := fun c o n e => by
  have nc : c ≠ h := fun z => by
    rw [z, del_same] at e
    cases e
  rw [del_ne nc]
  exact k c o n (del_sub _ _ e)
theorem del2 {H : Hp} {h c : Addr} {u : HO} (n : H h = none) : ∀ a o, del H c a = some o → del (del (upd H h u) h) c a = some o := fun a o e => by
  have nc : a ≠ c := fun z => by rw [z, del_same] at e; cases e
  have e := del_sub _ _ e
  rw [del_ne nc, del_ne (ne_of_none e n), upd_ne (ne_of_none e n)]
  exact e
end Fv


set_option Elab.async false
set_option linter.all false
set_option maxRecDepth 100000
set_option maxHeartbeats 4000000
namespace Fv
open PySem PySem.Spec PyProof.Rows L2
/-- list(x) of a tuple: a new list at none of the first places -/
def rListT (K : PySem.W.Frag) : List V → Hp → VK → Prop := fun xs H Q => ∃ p ys, xs = [.ref p] ∧ SqT K H p ys ∧ ∀ l, H l = none → l ≠ sysModules → Q (.ref l) (upd H l (.lst ys))
theorem call_listB {X : Cx} : CallR X (.type "list") (rListT X.K) := by
  intro pins s σ H xs us Q I r h
  obtain ⟨p, ys, ex, hT, q⟩ := h
  subst ex
  obtain ⟨v, ev, rv⟩ := vals1 r
  subst ev
  obtain rfl : v = Value.ref p := rv
  obtain ⟨items, ri, ⟨ob, hob, hcl, cap, hda⟩, room⟩ := I.tuple hT
  have hn := ri.length
  refine call_list_seq p (.inr rfl) hob hcl hda (fun hp cp keep new => ?_) (by simp only [List.size_toArray] <;> omega)
  have J : Inv X pins σ (upd H s.heap.objs.size (.lst ys)) { s with heap := hp } := I.laid (t' := s.toks) keep (Nat.le_refl _) ⟨room, items, cp, ri, new⟩
  exact ⟨.ref _, _, J, rfl, q _ (I.hok.fresh (Nat.le_refl _)) (Nat.ne_of_gt I.big)⟩

/-! ### names and facts with one thing put otherwise -/
abbrev sBent : Stmt := top 39
abbrev nBe : List Str := ["_law_bag_here", "_law_names_here", "_law_facts_here", "_law_style", "_law_at", "_law_odd_here", "_law_one", "_law_k", "_law_x", "_law_y", "_law_c"]
/-- the handed list: names, and facts; a list of facts stands for itself -/
def Hand (H : Hp) (b : Addr) (A : Addr → Prop) (h : Addr) : Prop := ∃ (v0 v1 : V) (d0 d1 : PyData), H h = some (.lst [v0, v1]) ∧ h ≠ b ∧ h ≠ sysModules ∧ (∀ a, A a → a ≠ h) ∧ Shd 4 2000 d0 ∧ (itemsD d0).length ≤ 5 ∧ Shd 5 20000 d1 ∧ (itemsD d1).length ≤ 5 ∧
  ((∃ (c : Addr) (xs : List V) (ds : List PyData), v1 = .ref c ∧ d1 = .list ds ∧ c ≠ b ∧ c ≠ h ∧ c ≠ sysModules ∧ (∀ a, A a → a ≠ c) ∧ H c = some (.lst xs) ∧ DqAll (del (del H h) c) b xs ds ∧ Dq (del (del H h) c) b v0 d0) ∨
    (isListD d1 = false ∧ Dq (del H h) b v1 d1 ∧ Dq (del H h) b v0 d0))
theorem Hand.mk_l {H : Hp} {b h c : Addr} {A : Addr → Prop} {v0 : V} {xs : List V} {ds : List PyData} {d0 : PyData} (nh : H h = none) (hs : h ≠ sysModules) (hb : ∃ o, H b = some o) (hA : ∀ a, A a → ∃ o, H a = some o) (s0 : Shd 4 2000 d0) (l0 : (itemsD d0).length ≤ 5) (s1 : Shd 5 20000 (.list ds)) (l1 : ds.length ≤ 5) (cb : c ≠ b) (cs : c ≠ sysModules) (hc : ∀ a, A a → a ≠ c) (ec : H c = some (.lst xs)) (hx : DqAll (del H c) b xs ds) (h0 : Dq (del H c) b v0 d0) : Hand (upd H h (.lst [v0, .ref c])) b A h := by
  obtain ⟨ob, eb⟩ := hb
  have ah : ∀ a, A a → a ≠ h := fun a ha => by
    obtain ⟨o, e⟩ := hA a ha
    exact ne_of_none e nh
  have ch : c ≠ h := ne_of_none ec nh
  exact ⟨v0, .ref c, d0, .list ds, upd_same, (ne_of_none eb nh).symm, hs, ah, s0, l0, s1, l1, .inl ⟨c, xs, ds, rfl, rfl, cb, ch, cs, hc, by rw [upd_ne ch]; exact ec, hx.mono fun a o _ e => del2 nh a o e, h0.mono fun a o _ e => del2 nh a o e⟩⟩
theorem Hand.mk_o {H : Hp} {b h : Addr} {A : Addr → Prop} {v0 v1 : V} {d0 d1 : PyData} (nh : H h = none) (hs : h ≠ sysModules) (hb : ∃ o, H b = some o) (hA : ∀ a, A a → ∃ o, H a = some o) (s0 : Shd 4 2000 d0) (l0 : (itemsD d0).length ≤ 5) (s1 : Shd 5 20000 d1) (l1 : (itemsD d1).length ≤ 5) (hl : isListD d1 = false) (h1 : Dq H b v1 d1) (h0 : Dq H b v0 d0) : Hand (upd H h (.lst [v0, v1])) b A h := by
  obtain ⟨ob, eb⟩ := hb
  have ah : ∀ a, A a → a ≠ h := fun a ha => by
    obtain ⟨o, e⟩ := hA a ha
    exact ne_of_none e nh
  exact ⟨v0, v1, d0, d1, upd_same, (ne_of_none eb nh).symm, hs, ah, s0, l0, s1, l1, .inr ⟨hl, h1.off nh (same_upd nh), h0.off nh (same_upd nh)⟩⟩
theorem bag_nt {H : Hp} {b : Addr} (B : Bag H b) : ∀ ys, H b ≠ some (.tup ys) := fun ys e => by
  obtain ⟨c, cs, p, s, i, B⟩ := B
  have := B.at_.symm.trans e
  cases this
theorem Its.keepB {H H' : Hp} {b : Addr} {xs : List V} {L : List FaT} (h : Its H xs L) (B : Bag H b) (k : Keep b H H') : Its H' xs L := h.samT fun t ys e => k _ _ (fun z => bag_nt B ys (by rw [← z]; exact e)) e
theorem Its.del {H : Hp} {c : Addr} {us xs : List V} {L : List FaT} (h : Its H xs L) (ec : H c = some (.lst us)) : Its (del H c) xs L := h.samT fun t ys e => by
  rw [del_ne fun z => by rw [z, ec] at e; cases e]
  exact e
theorem del_bt {H : Hp} {b c : Addr} (B : Bag H b) : ∀ ys, del H c b ≠ some (.tup ys) := fun ys e => bag_nt B ys (del_sub _ _ e)
theorem OddF.any {nm : Str} {H : Hp} {b : Addr} {xs : List V} {ds : List PyData} (f : OddF nm (.list ds)) (h : DqAll H b xs ds) (H' : Hp) : DqAll H' b xs ds := by
  rcases f.2 ds rfl with rfl | rfl | rfl
  · cases h
    exact .nil
  · cases h with
    | cons h t =>
      cases t
      cases h
      exact .cons (.int 1) .nil
  · cases h with
    | cons h t =>
      cases t
      cases h
      exact .cons (.str nm) .nil
theorem facts_shd {zs : List Str} {L : List FaT} (hz : ∀ z ∈ zs, NmOk z) (hsrc : ∀ f ∈ L, SrcIn zs f.1 ∧ SrcIn zs f.2.1) (hfb : ∀ f ∈ L, FaB f) : ∀ d ∈ L.map faD, Shd 4 1200 d := by
  intro d hd
  obtain ⟨f, hf, rfl⟩ := List.mem_map.mp hd
  obtain ⟨l, u⟩ := hfb f hf
  exact (shd_fact (src_shS hz (hsrc f hf).1) (src_shS hz (hsrc f hf).2) (by omega) (by omega)).mono (by decide) (by decide)
theorem addN {zs : List Str} {od : PyData} (hz : ∀ z ∈ zs, NmOk z) (z4 : zs.length ≤ 4) (o : Shd 3 200 od) : Shd 4 2000 (.list (zs.map PyData.str ++ [od])) := by
  have hl : (zs.map PyData.str ++ [od]).length ≤ 5 := by
    rw [List.length_append, List.length_map]
    show _ + 1 ≤ _
    omega
  refine ((ShdS.upTo (n := 3) (W := 200) (L := 5) (fun e he => ?_) hl).lst (by omega)).mono (by decide) (by decide)
  rcases List.mem_append.mp he with he | he
  · obtain ⟨z, hm, rfl⟩ := List.mem_map.mp he
    exact (shd_str (hz z hm).sh).mono (by decide) (by decide)
  · obtain rfl := List.mem_singleton.mp he
    exact o
theorem addL {zs : List Str} {od : PyData} (z4 : zs.length ≤ 4) : (itemsD (.list (zs.map PyData.str ++ [od]))).length ≤ 5 := by
  show (zs.map PyData.str ++ [od]).length ≤ 5
  rw [List.length_append, List.length_map]
  show _ + 1 ≤ _
  omega
theorem Hand.mk_odd {H G0 : Hp} {b h n : Addr} {A F : Addr → Prop} {ov : V} {od : PyData} {nm : Str} {zs : List Str} (nh : H h = none) (hs : h ≠ sysModules) (hb : ∃ o, H b = some o) (hA : ∀ a, A a → ∃ o, H a = some o) (hF : ∀ a, A a → F a) (hn' : F n) (s0 : Shd 4 2000 (.list (zs.map PyData.str))) (l0 : (itemsD (.list (zs.map PyData.str))).length ≤ 5)
    (hO : Dq (msk F G0) b ov od) (k : Keep b G0 H) (og : OddG nm od) (of_ : OddF nm od) (hn : H n = some (.lst (zs.map V.str))) (nb : n ≠ b) (ms : n ≠ sysModules) : Hand (upd H h (.lst [.ref n, ov])) b A h := by
  have s1 : Shd 5 20000 od := og.shd.mono (by decide) (by decide)
  have l1 : (itemsD od).length ≤ 5 := Nat.le_trans of_.1 (by decide)
  cases hli : isListD od with
  | false => exact .mk_o nh hs hb hA s0 l0 s1 l1 hli (hO.mono fun a o na e => k _ _ na (mskS e)) (.lst hn nb ms (dq_strs _))
  | true =>
    cases hO with
    | lst e na ma hx => exact .mk_l nh hs hb hA s0 l0 s1 l1 na ma (fun x hx z => mskN e (by rw [← z]; exact hF _ hx)) (k _ _ na (mskS e)) (of_.any hx _) (.lst (by rw [del_ne (fun z => mskN e (by rw [← z]; exact hn'))]; exact hn) nb ms (dq_strs _))
    | _ => cases hli
theorem ixNn {n j : Nat} (h : j < n) : ixN n (j : Int) = some j := by
  unfold ixN
  rw [if_pos (by omega), if_pos (by omega)]
  simp
/-- the facts, by themselves or one put otherwise -/
def BentJ (H : Hp) (b n c : Addr) (zs : List Str) (xs : List V) (L : List FaT) (r at_ : Nat) (ov : V) (j : Nat) (σ : L2.St) (H' : Hp) : Prop :=
  (∃ y6 y7 y8 y9 y10 : Option V, σ = [some (.ref b), some (.ref n), some (.ref c), some (.int r), some (.int at_), some ov, y6, y7, y8, y9, y10]) ∧ Bag H' b ∧ H' n = some (.lst (zs.map V.str)) ∧ Keep b H H' ∧ (∀ d, BagAt H b d → BagAt H' b d) ∧
  ((H' c = some (.lst xs) ∧ Its H' xs L) ∨ (r < j ∧ ∃ (us : List V) (ds : List PyData), H' c = some (.lst us) ∧ DqAll (del H' c) b us ds ∧ ds.length ≤ 4 ∧ ∀ d ∈ ds, Shd 4 1200 d))
section
variable {P : Program} {w : World} {K : PySem.W.Frag} {mg : Str → Option Value} {base : Heap} {C : Addr}
def spBent : Sp := fun vs H Q _ => ∃ (b n a : Addr) (zs : List Str) (xs : List V) (L : List FaT), vs = [.ref b, .ref n, .ref a] ∧ Bag H b ∧ H n = some (.lst (zs.map V.str)) ∧ n ≠ b ∧ n ≠ sysModules ∧ H a = some (.lst xs) ∧ a ≠ b ∧ Its H xs L ∧ 1 ≤ zs.length ∧ zs.length ≤ 4 ∧ (∀ z ∈ zs, NmOk z) ∧ zs.Nodup ∧ L.length ≤ 3 ∧ (∀ f ∈ L, SrcIn zs f.1 ∧ SrcIn zs f.2.1) ∧ (∀ f ∈ L, FaB f) ∧
  ∀ (h : Addr) (H' : Hp), H h = none → Hand H' b (fun a => a = n ∨ BagAt H b a) h → Bag H' b → Keep b H H' → (∀ c, BagAt H b c → BagAt H' b c) → Q (.ref h) H'
theorem scBe : FnScope nBe ["_law_bag_here", "_law_names_here", "_law_facts_here"] (defScope sBent) := ⟨rfl, rfl, rfl, by decide +kernel, rfl, by decide +kernel, by decide +kernel⟩
theorem ok_bent {f fT fO fM : Addr} {fd fdT fdO fdM : FuncData} (F : Fun K "_law_bent" "_law_bent" sBent f fd)
    (GT : FnOk P w K mg base CX0 1 fT fdT ["_law_bag_here", "_law_many"] spTake) (bT : Binds K fdT ["_law_bag_here", "_law_many"] []) (mT : mg "_law_take" = some (.ref fT)) (kT : PySem.W.keepIn K (.ref fT) = true)
    (GO : FnOk P w K mg base CX0 2 fO fdO ["_law_bag_here", "_law_name"] spOddQ) (bO : Binds K fdO ["_law_bag_here", "_law_name"] []) (mO : mg "_law_odd" = some (.ref fO)) (kO : PySem.W.keepIn K (.ref fO) = true)
    (GM : FnOk P w K mg base CX0 2 fM fdM ["_law_bag_here", "_law_things"] (spMixed K)) (bM : Binds K fdM ["_law_bag_here", "_law_things"] []) (mM : mg "_law_mixed" = some (.ref fM)) (kM : PySem.W.keepIn K (.ref fM) = true)
    (mL : mg "list" = none) (mt : mg "tuple" = none) (ml : mg "len" = none) : FnOk P w K mg base CX0 3 f fd ["_law_bag_here", "_law_names_here", "_law_facts_here"] spBent := by
  refine F.ok scBe (fun vs H Q E h => ?_) (fun cdv A outer s H vs Q E hr h => ?_)
  · obtain ⟨b, n, a, _, _, _, rfl, _⟩ := h
    rfl
  · obtain ⟨b, n, a, zs, xs, L, rfl, B, hn, nb, nm, ha, ab, hI, z1, z4, hz, nd, ll, hsrc, hfb, q⟩ := h
    have hr1 : Room 1 _ := hr.mono (by decide)
    have hu := hu_of hr
    refine ⟨_, pss_cons (ps_par (i := 3) (j := 2) (by rfl) scBe.nd rfl rfl (by decide) rfl rfl (pa_cons (pe_call GT hr1 (by rfl) mT kT bT .nil pass0 (pa_cons (pv 0) (pa_cons pe_int pa_nil))) (pa_cons (pe_callTy (r := rListL K) call_listL (by rfl) mL boot_list (pa_cons (pv 2) pa_nil)) pa_nil)) (by rfl))
      (pss_cons (ps_set (i := 4) scBe.nd rfl (.inl rfl) (pe_ifExp (pt_cmpR (op_neNil hr.units) (pv 2) (pe_lst pa_nil) (nomark _)) (pe_call GT hr1 (by rfl) mT kT bT .nil pass0 (pa_cons (pv 0) (pa_cons (pe_callB call_len_seq (by rfl) ml PySem.boot_len (pa_cons (pv 2) pa_nil)) pa_nil))) pe_int))
      (pss_cons (ps_set (i := 5) scBe.nd rfl (.inl rfl) (pe_call GO hr (by rfl) mO kO bO .nil pass0 (pa_cons (pv 0) (pa_cons (pe_ix ix_list (pv 1) pe_int (fun _ _ => rfl)) pa_nil))))
      (pss_cons (ps_if (pt_cmpR op_eq (pv 3) pe_int (nomark _)) (pss_one (ps_ret (pe_lstB (pa_cons (pe_ix ix_list (pe_lstB (pa_cons (pv 1) (pa_cons (pv 5) (pa_cons (pe_op op_catB (pv 1) (pe_lstB (pa_cons (pv 5) pa_nil))) (pa_cons (pe_op op_catB (pv 1) (pe_slice (r := rSlB K) sl_listB (pv 1) po_none (po_some pe_int))) pa_nil))))) (pe_call GT hr1 (by rfl) mT kT bT .nil pass0 (pa_cons (pv 0) (pa_cons pe_int pa_nil))) (fun _ _ => rfl)) (pa_cons (pv 2) pa_nil))))) pss_nil)
      (pss_cons (ps_if (pt_cmpR op_eq (pv 3) pe_int (nomark _)) (pss_one (ps_ret (pe_lstB (pa_cons (pv 1) (pa_cons (pe_ix ix_list (pe_lstB (pa_cons (pv 5) (pa_cons (pe_op op_catB (pv 2) (pe_lstB (pa_cons (pv 5) pa_nil))) (pa_cons (pe_callTy call_tuple_of (by rfl) mt boot_tuple (pa_cons (pv 2) pa_nil)) pa_nil)))) (pe_call GT hr1 (by rfl) mT kT bT .nil pass0 (pa_cons (pv 0) (pa_cons pe_int pa_nil))) (fun _ _ => rfl)) pa_nil))))) pss_nil)
      (pss_cons (ps_if (PW.pt (pw_and (pt_cmpR op_eq (pv 3) pe_int (nomark _)) (pw_and1 (pt_cmpR (op_neNil hr.units) (pv 2) (pe_lst pa_nil) (nomark _)))))
          (pss_cons (ps_par (i := 6) (j := 7) (by rfl) scBe.nd rfl rfl (by decide) rfl rfl (pa_cons (pe_callTy (T := "list") (r := rListT K) call_listB (by rfl) mL boot_list (pa_cons (pe_ix ix_list (pv 2) (pv 4) (fun _ _ => rfl)) pa_nil)) (pa_cons (pe_call GT hr1 (by rfl) mT kT bT .nil pass0 (pa_cons (pv 0) (pa_cons pe_int pa_nil))) pa_nil)) (by rfl))
          (pss_cons (ps_asg (pv 5) (pg_sub (pv 6) (pv 7) set_list))
          (pss_one (ps_asg (pe_ix ix_list (pe_lstB (pa_cons (pe_callTy call_tuple_of (by rfl) mt boot_tuple (pa_cons (pv 6) pa_nil)) (pa_cons (pv 6) (pa_cons (pe_callTy call_tuple_of (by rfl) mt boot_tuple (pa_cons (pe_op op_catB (pv 6) (pe_lstB (pa_cons pe_int pa_nil))) pa_nil)) (pa_cons (pe_callTy call_tuple_of (by rfl) mt boot_tuple (pa_cons (pe_slice (r := rSlB K) sl_listB (pv 6) po_none (po_some pe_int)) pa_nil)) pa_nil))))) (pe_call GT hr1 (by rfl) mT kT bT .nil pass0 (pa_cons (pv 0) (pa_cons pe_int pa_nil))) (fun _ _ => rfl)) (pg_sub (pv 2) (pv 4) set_list))))) pss_nil)
      (pss_cons (ps_if (pt_cmpR op_eq (pv 3) pe_int (nomark _)) (pss_one (ps_expr (pe_bm PySem.F.plainAttrs_list PySem.F.slot_list_insert PySem.F.type_list_insert mt_insert (pv 2) (pa_cons (pv 4) (pa_cons (pe_tup (pa_cons (pe_ix ix_list (pv 1) pe_int (fun _ _ => rfl)) (pa_cons pe_str (pa_cons pe_int pa_nil)))) pa_nil))))) pss_nil)
      (pss_cons (ps_if (PW.pt (pw_and (pt_cmpR op_eq (pv 3) pe_int (nomark _)) (pw_and1 (pt_cmpR (op_neNil hr.units) (pv 2) (pe_lst pa_nil) (nomark _)))))
          (pss_cons (ps_asg (pe_ix ix_list (pv 2) (pv 4) (fun _ _ => rfl)) (pg_tup (by rfl) (pgs_cons (pg_name (i := 8) scBe.nd rfl (.inl rfl)) (pgs_cons (pg_name (i := 9) scBe.nd rfl (.inl rfl)) (pgs_cons (pg_name (i := 10) scBe.nd rfl (.inl rfl)) pgs_nil)))))
          (pss_one (ps_expr (pe_bm PySem.F.plainAttrs_list PySem.F.slot_list_append PySem.F.type_list_append mt_append (pv 2) (pa_cons (pe_tup (pa_cons (pv 9) (pa_cons (pv 8) (pa_cons (pe_op op_sub (pe_un un_neg (pv 10)) pe_int) pa_nil)))) pa_nil))))) pss_nil)
      (pss_cons (ps_if (pt_cmpR op_eq (pv 3) pe_int (nomark _)) (pss_one (ps_expr (pe_bm PySem.F.plainAttrs_list PySem.F.slot_list_append PySem.F.type_list_append mt_append (pv 2) (pa_cons (pe_tup (pa_cons (pe_ix ix_list (pv 1) pe_int (fun _ _ => rfl)) (pa_cons (pe_ix ix_list (pv 1) pe_int (fun _ _ => rfl)) (pa_cons (pe_op op_sub (pe_call GT hr1 (by rfl) mT kT bT .nil pass0 (pa_cons (pv 0) (pa_cons pe_int pa_nil))) pe_int) pa_nil)))) pa_nil)))) pss_nil)
      (pss_one (ps_ret (pe_lstB (pa_cons (pe_call GM hr (by rfl) mM kM bM .nil pass0 (pa_cons (pv 0) (pa_cons (pv 1) pa_nil))) (pa_cons (pv 2) pa_nil))))))))))))), ?_⟩
    rw [show L2.start nBe [V.ref b, V.ref n, V.ref a] = [some (.ref b), some (.ref n), some (.ref a), none, none, none, none, none, none, none, none] from rfl]
    obtain ⟨z0, zt, rfl⟩ : ∃ z0 zt, zs = z0 :: zt := by
      cases zs with
      | nil => exact absurd z1 (by decide)
      | cons z0 zt => exact ⟨z0, zt, rfl⟩
    have hz0 : NmOk z0 := hz z0 List.mem_cons_self
    have h100 : 100 ≤ sizeLine := by decide
    obtain ⟨c0, hc0⟩ : ∃ c0, BagAt H b c0 := id B
    have c0ex : ∀ {G : Hp}, BagAt G b c0 → ∃ o, G c0 = some o := fun {G} h => by
      obtain ⟨_, _, _, _, BI⟩ := h
      exact ⟨_, BI.cells⟩
    have c0b : c0 ≠ b := by
      obtain ⟨_, _, _, _, BI⟩ := id hc0
      exact BI.ne
    have onA : ∀ {Z : Addr → Prop}, Z n → Z c0 → ∀ a, (a = n ∨ BagAt H b a) → Z a := fun {Z} h1 h2 a ha => by
      rcases ha with rfl | ha
      · exact h1
      · rw [BagAt.uniq hc0 ha]
        exact h2
    have zl : ((z0 :: zt).map V.str).length ≤ 4 := by rw [List.length_map]; exact z4
    have xl := hI.len
    refine ⟨_, rfl, b, 8, rfl, B, by decide, by decide, fun r H1 hr8 B1 k1 g1 => ?_⟩
    refine ⟨_, rfl, a, xs, rfl, SqL.of (k1 _ _ ab ha), fun c nc mc => ⟨_, _, rfl, ?_⟩⟩
    simp only [gName, List.set_cons_zero, List.set_cons_succ]
    have hn1 := k1 _ _ nb hn
    have hI1 := hI.keepB B k1
    have ncn : n ≠ c := ne_of_none hn1 nc
    have cb : c ≠ b := by
      obtain ⟨o, e⟩ := B1.at_b
      exact (ne_of_none e nc).symm
    have nc0 : H c = none := by
      cases e : H c with
      | none => rfl
      | some o => rw [k1 _ _ cb e] at nc; cases nc
    have cc0 : c ≠ c0 := by
      obtain ⟨_, _, _, _, BI⟩ := id hc0
      exact (ne_of_none BI.cells nc0).symm
    have s2 := same_upd (o := .lst xs) nc
    have ec2 : (upd H1 c (.lst xs)) c = some (.lst xs) := upd_same
    have k2 : Keep b H (upd H1 c (.lst xs)) := k1.trans (Keep.same s2)
    have B2 := B1.same s2
    have g2 : ∀ d, BagAt H b d → BagAt (upd H1 c (.lst xs)) b d := fun d hd => (g1 d hd).same s2
    have hn2 := s2 _ _ hn1
    have hI2 := hI1.same s2
    generalize upd H1 c (.lst xs) = H2 at ec2 k2 B2 g2 hn2 hI2 ⊢
    clear s2
    refine cutK (fun σ' H' => ∃ at_ : Nat, σ' = [some (.ref b), some (.ref n), some (.ref c), some (.int r), some (.int at_), none, none, none, none, none, none] ∧ (xs ≠ [] → at_ < xs.length) ∧ at_ ≤ 3 ∧ Bag H' b ∧ H' n = some (.lst ((z0 :: zt).map V.str)) ∧ H' c = some (.lst xs) ∧ Its H' xs L ∧ Keep b H H' ∧ (∀ d, BagAt H b d → BagAt H' b d)) ?_ (fun k => ?_)
    · rintro σ' H3 ⟨at_, rfl, hat, hat3, B3, hn3, ec3, hI3, k3, g3⟩
      refine ⟨_, rfl, _, rfl, n, _, 0, _, rfl, rfl, SqL.of hn3, (atI_nat (j := 0) rfl), b, (fun a => a = c ∨ a = n ∨ a = c0), z0, rfl, B3, (fun a ha => by
        rcases ha with rfl | rfl | rfl
        · exact ⟨cb, _, ec3⟩
        · exact ⟨nb, _, hn3⟩
        · exact ⟨c0b, c0ex (g3 _ hc0)⟩), hz0, fun ov od H4 hO og of_ B4 k4 g4 => ?_⟩
      simp only [gName, List.set_cons_zero, List.set_cons_succ]
      have ec4 := k4 _ _ cb ec3
      have hn4 := k4 _ _ nb hn3
      have hI4 := hI3.keepB B3 k4
      have kk4 := k3.trans k4
      have gg4 : ∀ d, BagAt H b d → BagAt H4 b d := fun d hd => g4 d (g3 d hd)
      clear k3 k4 g3 g4 k1 k2 g1 g2 hn1 hn2 hn3 ec2 ec3 hI1 hI2 hI3 B1 B2 B3
      have oddK : ∀ {G : Hp}, Keep b H4 G → Dq (del G c) b ov od := fun {G} kG => hO.mono fun a o na e => by
        rw [del_ne fun z => mskN e (.inl z)]
        exact kG _ _ na (mskS e)
      have dqN : ∀ {G : Hp} {d : Addr}, n ≠ d → G n = some (.lst ((z0 :: zt).map V.str)) → Dq (del G d) b (.ref n) (.list ((z0 :: zt).map PyData.str)) := fun {G d} nd e => .lst (by rw [del_ne nd]; exact e) nb nm (dq_strs _)
      have back : ∀ {G : Hp} {h : Addr}, Keep b H4 G → Bag G b → G h = none → H h = none := fun {G h} kG BG nh => by
        have hb : h ≠ b := by
          obtain ⟨o, e⟩ := BG.at_b
          exact (ne_of_none e nh).symm
        cases e : H h with
        | none => rfl
        | some o => rw [(kk4.trans kG) _ _ hb e] at nh; cases nh
      have sN : Shd 4 2000 (.list ((z0 :: zt).map PyData.str)) := (shd_strs hz z4 (by decide)).mono (by decide) (by decide)
      have lN : (itemsD (.list ((z0 :: zt).map PyData.str))).length ≤ 5 := by
        show ((z0 :: zt).map PyData.str).length ≤ 5
        rw [List.length_map]
        omega
      have sF := facts_shd hz hsrc hfb
      have lF : (L.map faD).length ≤ 3 := by rw [List.length_map]; exact ll
      have fin0 : ∀ {G : Hp} {v0 : V} {d0 : PyData}, Keep b H4 G → Bag G b → (∀ d, BagAt H b d → BagAt G b d) → Dq (del G c) b v0 d0 → Shd 4 2000 d0 → (itemsD d0).length ≤ 5 → ([v0, V.ref c].length ≤ sizeLine ∧ ∀ h, G h = none → h ≠ sysModules → Q (.ref h) (upd G h (.lst [v0, .ref c]))) :=
        fun {G v0 d0} kG BG gG h0 s0 l0 => ⟨by show 2 ≤ sizeLine; omega, fun h nh mh => q h _ (back kG BG nh)
          (Hand.mk_l nh mh BG.at_b (onA ⟨_, kG _ _ nb hn4⟩ (c0ex (gG c0 hc0))) s0 l0 (((ShdS.upTo sF lF).lst (by omega)).mono (by decide) (by decide)) (by omega) cb mc (onA ncn cc0.symm) (kG _ _ cb ec4) (Its.dq (del_bt BG) ((hI4.keepB B4 kG).del (kG _ _ cb ec4))) h0)
          (BG.new nh) ((kk4.trans kG).trans (Keep.new nh)) fun d hd => (BagAt.new (gG d hd) nh).1⟩
      refine ⟨_, rfl, rfl, _, rfl, ite2 (fun e => ?_) (fun e => ?_)⟩
      · clear e
        refine ⟨_, rfl, _, rfl, _, rfl, _, rfl, by show 1 ≤ sizeLine; omega, fun l1 nl1 ml1 => ?_⟩
        have w1 := same_upd (o := .lst [ov]) nl1
        have e1 : (upd H4 l1 (.lst [ov])) l1 = some (.lst [ov]) := upd_same
        generalize upd H4 l1 (.lst [ov]) = G1 at w1 e1 ⊢
        refine ⟨n, l1, _, _, rfl, rfl, w1 _ _ hn4, e1, (by show _ + 1 ≤ _; omega), fun l2 nl2 ml2 => ?_⟩
        have l2c : l2 ≠ c := (ne_of_none (w1 _ _ ec4) nl2).symm
        have w2 := w1.trans (same_upd (o := .lst ((z0 :: zt).map V.str ++ [ov])) nl2)
        have e2 : (upd G1 l2 (.lst ((z0 :: zt).map V.str ++ [ov]))) l2 = some (.lst ((z0 :: zt).map V.str ++ [ov])) := upd_same
        generalize upd G1 l2 (.lst ((z0 :: zt).map V.str ++ [ov])) = G2 at w2 e2 ⊢
        refine ⟨_, rfl, _, rfl, _, rfl, n, _, rfl, SqL.of (w2 _ _ hn4), fun l3 nl3 ml3 => ?_⟩
        rw [show cutV ((z0 :: zt).map V.str) none (some 1) = [V.str z0] from (cut_to _ 1).trans rfl]
        have w3 := same_upd (o := .lst [V.str z0]) nl3
        have e3 : (upd G2 l3 (.lst [V.str z0])) l3 = some (.lst [V.str z0]) := upd_same
        have e23 := w3 _ _ e2
        have w03 := w2.trans w3
        generalize upd G2 l3 (.lst [V.str z0]) = G3 at w3 e3 e23 w03 ⊢
        refine ⟨n, l3, _, _, rfl, rfl, w03 _ _ hn4, e3, (by show _ + 1 ≤ _; omega), fun l4 nl4 ml4 => ?_⟩
        have l4c : l4 ≠ c := (ne_of_none (w03 _ _ ec4) nl4).symm
        have w4 := same_upd (o := .lst ((z0 :: zt).map V.str ++ [V.str z0])) nl4
        have e4 : (upd G3 l4 (.lst ((z0 :: zt).map V.str ++ [V.str z0]))) l4 = some (.lst ((z0 :: zt).map V.str ++ [V.str z0])) := upd_same
        have e24 := w4 _ _ e23
        have w04 := w03.trans w4
        generalize upd G3 l4 (.lst ((z0 :: zt).map V.str ++ [V.str z0])) = G4 at w4 e4 e24 w04 ⊢
        refine ⟨by show 4 ≤ sizeLine; omega, fun p np mp => ?_⟩
        have w5 := same_upd (o := .lst [.ref n, ov, .ref l2, .ref l4]) np
        have e5 : (upd G4 p (.lst [.ref n, ov, .ref l2, .ref l4])) p = some (.lst [.ref n, ov, .ref l2, .ref l4]) := upd_same
        have w05 := w04.trans w5
        have e25 := w5 _ _ e24
        have e45 := w5 _ _ e4
        generalize upd G4 p (.lst [.ref n, ov, .ref l2, .ref l4]) = G5 at w05 e5 e25 e45 ⊢
        have B5 := B4.same w05
        obtain ⟨ob, eb5⟩ := id B5.at_b
        have offb : ∀ {d : Addr} {us : List V}, G5 d = some (.lst us) → us.length ≠ 4 → d ≠ b := fun {d us} e l z => by
          obtain ⟨_, _, _, _, _, BB⟩ := id B5
          rw [z, BB.at_] at e
          cases e
          exact l rfl
        have b1 : ∃ o, G1 b = some o := by
          obtain ⟨o, e⟩ := B4.at_b
          exact ⟨o, w1 _ _ e⟩
        have b2 : ∃ o, G3 b = some o := by
          obtain ⟨o, e⟩ := B4.at_b
          exact ⟨o, w03 _ _ e⟩
        have b3 : ∃ o, G4 b = some o := by
          obtain ⟨o, e⟩ := B4.at_b
          exact ⟨o, w04 _ _ e⟩
        have fb : ∀ {G : Hp} {d : Addr}, (∃ o, G b = some o) → G d = none → d ≠ b := fun {G d} e n => by
          obtain ⟨o, e⟩ := e
          exact (ne_of_none e n).symm
        have l2b := fb b1 nl2
        have l4b := fb b2 nl4
        have pb := fb b3 np
        refine ⟨_, rfl, b, 4, rfl, B5, by decide, by decide, fun j G hj BG kG gG => ?_⟩
        have kG4 : Keep b H4 G := (Keep.same w05).trans kG
        have gGG : ∀ d, BagAt H b d → BagAt G b d := fun d hd => gG d ((gg4 d hd).same w05)
        have hj : j < 4 := by omega
        match j, hj with
        | 0, _ => exact ⟨p, _, 0, _, rfl, rfl, SqL.of (kG _ _ pb e5), rfl, _, rfl, fin0 kG4 BG gGG (dqN ncn (kG4 _ _ nb hn4)) sN lN⟩
        | 1, _ => exact ⟨p, _, 1, _, rfl, rfl, SqL.of (kG _ _ pb e5), rfl, _, rfl, fin0 kG4 BG gGG (oddK kG4) (og.shd.mono (by decide) (by decide)) (Nat.le_trans of_.1 (by decide))⟩
        | 2, _ => exact ⟨p, _, 2, _, rfl, rfl, SqL.of (kG _ _ pb e5), rfl, _, rfl, fin0 kG4 BG gGG (.lst (by rw [del_ne l2c]; exact kG _ _ l2b e25) l2b ml2 ((dq_strs _).app (.cons (oddK kG4) .nil))) (addN hz z4 og.shd) (addL z4)⟩
        | 3, _ => exact ⟨p, _, 3, _, rfl, rfl, SqL.of (kG _ _ pb e5), rfl, _, rfl, fin0 kG4 BG gGG (.lst (by rw [del_ne l4c]; exact kG _ _ l4b e45) l4b ml4 ((dq_strs _).app (.cons (.str z0) .nil))) (addN hz z4 ((shd_str hz0.sh).mono (by decide) (by decide))) (addL z4)⟩
      have oddD : ∀ {G : Hp} {d : Addr}, Keep b H4 G → (∀ a o, H4 a = some o → a ≠ d) → Dq (del G d) b ov od := fun {G d} kG nd => hO.mono fun a o na e => by
        rw [del_ne (nd _ _ (mskS e))]
        exact kG _ _ na (mskS e)
      refine ⟨_, rfl, rfl, _, rfl, ite2 (fun e => ?_) (fun e => ?_)⟩
      · clear e
        refine ⟨_, rfl, _, rfl, _, rfl, _, rfl, by show 1 ≤ sizeLine; omega, fun l1 nl1 ml1 => ?_⟩
        have w1 := same_upd (o := .lst [ov]) nl1
        have e1 : (upd H4 l1 (.lst [ov])) l1 = some (.lst [ov]) := upd_same
        generalize upd H4 l1 (.lst [ov]) = G1 at w1 e1 ⊢
        refine ⟨c, l1, _, _, rfl, rfl, w1 _ _ ec4, e1, (by show _ + 1 ≤ _; omega), fun l2 nl2 ml2 => ?_⟩
        have w2 := w1.trans (same_upd (o := .lst (xs ++ [ov])) nl2)
        have e2 : (upd G1 l2 (.lst (xs ++ [ov]))) l2 = some (.lst (xs ++ [ov])) := upd_same
        generalize upd G1 l2 (.lst (xs ++ [ov])) = G2 at w2 e2 ⊢
        refine ⟨_, rfl, c, xs, rfl, .inl ⟨SqL.of (w2 _ _ ec4), fun t nt => ?_⟩⟩
        have w3 := w2.trans (same_upd (o := .tup xs) nt)
        have e3 : (upd G2 t (.tup xs)) t = some (.tup xs) := upd_same
        have e23 := (same_upd (o := .tup xs) nt) _ _ e2
        generalize upd G2 t (.tup xs) = G3 at w3 e3 e23 ⊢
        refine ⟨by show 3 ≤ sizeLine; omega, fun p np mp => ?_⟩
        have w4 := same_upd (o := .lst [ov, .ref l2, .ref t]) np
        have e4 : (upd G3 p (.lst [ov, .ref l2, .ref t])) p = some (.lst [ov, .ref l2, .ref t]) := upd_same
        have e24 := w4 _ _ e23
        have e34 := w4 _ _ e3
        have w04 := w3.trans w4
        generalize upd G3 p (.lst [ov, .ref l2, .ref t]) = G4 at w04 e4 e24 e34 ⊢
        have fb : ∀ {G : Hp} {d : Addr}, Same H4 G → G d = none → d ≠ b := fun {G d} s n => by
          obtain ⟨o, e⟩ := B4.at_b
          exact (ne_of_none (s _ _ e) n).symm
        have l2b := fb w1 nl2
        have tb := fb w2 nt
        have pb := fb w3 np
        refine ⟨_, rfl, b, 3, rfl, B4.same w04, by decide, by decide, fun j G hj BG kG gG => ?_⟩
        have kG4 : Keep b H4 G := (Keep.same w04).trans kG
        have gGG : ∀ d, BagAt H b d → BagAt G b d := fun d hd => gG d ((gg4 d hd).same w04)
        have hj : j < 3 := by omega
        have hnG := kG4 _ _ nb hn4
        have IG := hI4.keepB B4 kG4
        match j, hj with
        | 0, _ =>
          exact ⟨p, _, 0, _, rfl, rfl, SqL.of (kG _ _ pb e4), rfl, by show 2 ≤ sizeLine; omega, fun h nh mh => q h _ (back kG4 BG nh) (.mk_odd nh mh BG.at_b (onA ⟨_, hnG⟩ (c0ex (gGG c0 hc0))) (onA (.inr (.inl rfl)) (.inr (.inr rfl))) (.inr (.inl rfl)) sN lN hO kG4 og of_ hnG nb nm) (BG.new nh) ((kk4.trans kG4).trans (Keep.new nh)) fun d hd => (BagAt.new (gGG d hd) nh).1⟩
        | 1, _ =>
          have e2G := kG _ _ l2b e24
          have l2c0 : c0 ≠ l2 := by
            obtain ⟨o, e⟩ := c0ex (gg4 c0 hc0)
            exact ne_of_none (w1 _ _ e) nl2
          refine ⟨p, _, 1, _, rfl, rfl, SqL.of (kG _ _ pb e4), rfl, by show 2 ≤ sizeLine; omega, fun h nh mh => q h _ (back kG4 BG nh) ?_ (BG.new nh) ((kk4.trans kG4).trans (Keep.new nh)) fun d hd => (BagAt.new (gGG d hd) nh).1⟩
          have l4 : (L.map faD ++ [od]).length ≤ 4 := by
            rw [List.length_append]
            show _ + 1 ≤ _
            omega
          refine .mk_l nh mh BG.at_b (onA ⟨_, hnG⟩ (c0ex (gGG c0 hc0))) sN lN (((ShdS.upTo (n := 4) (W := 1200) (fun d hd => ?_) l4).lst (by omega)).mono (by decide) (by decide)) (by omega) l2b ml2 (onA (ne_of_none (w1 _ _ hn4) nl2) l2c0) e2G ((Its.dq (del_bt BG) (IG.del e2G)).app (.cons (oddD kG4 fun a o e => ne_of_none (w1 _ _ e) nl2) .nil)) (dqN (ne_of_none (w1 _ _ hn4) nl2) hnG)
          rcases List.mem_append.mp hd with hd | hd
          · exact sF d hd
          · obtain rfl := List.mem_singleton.mp hd
            exact og.shd.mono (by decide) (by decide)
        | 2, _ =>
          refine ⟨p, _, 2, _, rfl, rfl, SqL.of (kG _ _ pb e4), rfl, by show 2 ≤ sizeLine; omega, fun h nh mh => q h _ (back kG4 BG nh) ?_ (BG.new nh) ((kk4.trans kG4).trans (Keep.new nh)) fun d hd => (BagAt.new (gGG d hd) nh).1⟩
          exact .mk_o nh mh BG.at_b (onA ⟨_, hnG⟩ (c0ex (gGG c0 hc0))) sN lN (((ShdS.upTo sF lF).tup (by omega)).mono (by decide) (by decide)) (by show (L.map faD).length ≤ 5; omega) rfl (.tup (kG _ _ tb e34) tb (Its.dq (bag_nt BG) IG)) (.lst hnG nb nm (dq_strs _))
      clear fin0
      have onlyC : ∀ {G : Hp}, BagAt G b c0 → ∀ d, BagAt H b d → BagAt G b d := fun {G} h d hd => by
        rw [BagAt.uniq hc0 hd]
        exact h
      have Bc4 := gg4 c0 hc0
      have J0 : ∀ {G : Hp} {j : Nat} {y6 y7 y8 y9 y10 : Option V}, Keep b H4 G → BagAt G b c0 → BentJ H b n c (z0 :: zt) xs L r at_ ov j [some (.ref b), some (.ref n), some (.ref c), some (.int r), some (.int at_), some ov, y6, y7, y8, y9, y10] G := fun {G j y6 y7 y8 y9 y10} kG bG =>
        ⟨⟨_, _, _, _, _, rfl⟩, bG.bag, kG _ _ nb hn4, kk4.trans kG, onlyC bG, .inl ⟨kG _ _ cb ec4, hI4.keepB B4 kG⟩⟩
      have putJ : ∀ {G : Hp} {t : Addr} {x y : Str} {i : Int} {us : List V} {ds : List PyData} {j : Nat} {y6 y7 y8 y9 y10 : Option V}, Keep b H G → BagAt G b c0 → G n = some (.lst ((z0 :: zt).map V.str)) → G t = none → Its G xs L → G c = some (.lst xs) → ShS x → ShS y → -(10 ^ 41) ≤ i → i ≤ 10 ^ 41 →
          (∀ {D : Hp}, DqAll D b xs (L.map faD) → Dq D b (.ref t) (.tuple [.str x, .str y, .int i]) → DqAll D b us ds) → (∀ {d : PyData}, d ∈ ds → d = .tuple [.str x, .str y, .int i] ∨ d ∈ L.map faD) → ds.length ≤ 4 → r < j →
          BentJ H b n c (z0 :: zt) xs L r at_ ov j [some (.ref b), some (.ref n), some (.ref c), some (.int r), some (.int at_), some ov, y6, y7, y8, y9, y10] (upd (upd G t (.tup [.str x, .str y, .int i])) c (.lst us)) := by
        intro G t x y i us ds j y6 y7 y8 y9 y10 kG bG hnG nt IG ecG sx sy il iu hD hm hl hr
        obtain ⟨Bt, tb, tc0⟩ := BagAt.new (o := .tup [.str x, .str y, .int i]) bG nt
        have w := same_upd (o := .tup [.str x, .str y, .int i]) nt
        have et : (upd G t (.tup [.str x, .str y, .int i])) t = some (.tup [.str x, .str y, .int i]) := upd_same
        have tc : t ≠ c := (ne_of_none ecG nt).symm
        generalize upd G t (.tup [.str x, .str y, .int i]) = G' at Bt w et ⊢
        have ec' := w _ _ ecG
        refine ⟨⟨_, _, _, _, _, rfl⟩, (Bt.put cb cc0).bag, by rw [upd_ne ncn]; exact w _ _ hnG, fun a o na e => by rw [upd_ne (ne_of_none e nc0)]; exact w _ _ (kG _ _ na e), onlyC (Bt.put cb cc0),
          .inr ⟨hr, us, ds, upd_same, ?_, hl, fun d hd => ?_⟩⟩
        · rw [del_upd]
          exact hD (Its.dq (del_bt Bt.bag) ((IG.same w).del ec')) (.tup (by rw [del_ne tc]; exact et) tb (.cons (.str _) (.cons (.str _) (.cons (.int _) .nil))))
        · rcases hm hd with rfl | hd
          · exact (shd_fact sx sy il iu).mono (by decide) (by decide)
          · exact sF d hd
      unfold tNext
      dsimp only
      refine cutK (BentJ H b n c (z0 :: zt) xs L r at_ ov 3) ?_ (fun k => ?_)
      · rintro σ' G3 J3
        refine cutK (BentJ H b n c (z0 :: zt) xs L r at_ ov 4) ?_ (fun k => ?_)
        · rintro σ' G4 J4
          refine cutK (BentJ H b n c (z0 :: zt) xs L r at_ ov 5) ?_ (fun k => ?_)
          · rintro σ' G5 J5
            refine cutK (BentJ H b n c (z0 :: zt) xs L r at_ ov 6) ?_ (fun k => ?_)
            · rintro σ' G6 ⟨⟨y6, y7, y8, y9, y10, rfl⟩, B6, hn6, k6, g6, hF⟩
              obtain ⟨us, ds, ec6, hx6, dl, dsk⟩ : ∃ (us : List V) (ds : List PyData), G6 c = some (.lst us) ∧ DqAll (del G6 c) b us ds ∧ ds.length ≤ 4 ∧ ∀ d ∈ ds, Shd 4 1200 d := by
                rcases hF with ⟨e, hI6⟩ | ⟨_, h⟩
                · exact ⟨xs, _, e, Its.dq (del_bt B6) (hI6.del e), by omega, sF⟩
                · exact h
              refine ⟨_, rfl, _, rfl, b, n, _, rfl, B6, nb, hn6, (by omega), fun p ys G7 np mp ep perm B7 k7 g7 => ⟨_, rfl, by show 2 ≤ sizeLine; omega, fun h nh mh => ?_⟩⟩
              obtain ⟨zs2, rfl, perm2⟩ := strs_perm perm
              have pc : p ≠ c := (ne_of_none ec6 np).symm
              have pb : p ≠ b := by
                obtain ⟨o, e⟩ := B6.at_b
                exact (ne_of_none e np).symm
              have nH : H h = none := by
                have hb : h ≠ b := by
                  obtain ⟨o, e⟩ := B7.at_b
                  exact (ne_of_none e nh).symm
                cases e : H h with
                | none => rfl
                | some o => rw [(k6.trans k7) _ _ hb e] at nh; cases nh
              have zl2 : zs2.length ≤ 4 := by rw [perm2.length_eq]; exact z4
              exact q h _ nH (.mk_l nh mh B7.at_b (onA ⟨_, k7 _ _ nb hn6⟩ (c0ex (g7 c0 (g6 c0 hc0)))) ((shd_strs (fun z hz' => hz z (perm2.mem_iff.mp hz')) zl2 (by decide)).mono (by decide) (by decide)) (by show (zs2.map PyData.str).length ≤ 5; rw [List.length_map]; omega)
                (((ShdS.upTo dsk dl).lst (by omega)).mono (by decide) (by decide)) (by omega) cb mc (onA ncn cc0.symm) (k7 _ _ cb ec6) (hx6.mono (del_keep k7)) (.lst (by rw [del_ne pc]; exact ep) pb mp (dq_strs _))) (B7.new nh) ((k6.trans k7).trans (Keep.new nh)) fun d hd => (BagAt.new (g7 d (g6 d hd)) nh).1
            · obtain ⟨⟨y6, y7, y8, y9, y10, rfl⟩, B5, hn5, k5, g5, hF⟩ := J5
              refine ⟨_, rfl, rfl, _, rfl, ite2 (fun e => ?_) (fun e => ?_)⟩
              · have r5 : r = 5 := by simp at e; omega
                obtain ⟨ec5, hI5⟩ : G5 c = some (.lst xs) ∧ Its G5 xs L := hF.resolve_right (fun h => by omega)
                refine ⟨_, rfl, .inl ⟨rfl, _, SqL.of ec5⟩, _, rfl, n, _, 0, _, rfl, rfl, SqL.of hn5, (atI_nat (j := 0) rfl), _, rfl, n, _, 0, _, rfl, rfl, SqL.of hn5, (atI_nat (j := 0) rfl), _, rfl, b, 3, rfl, B5, by decide, by decide, fun tk G htk BG kG gG => ?_⟩
                refine ⟨_, _, rfl, rfl, by show 3 ≤ sizeLine; omega, fun t nt => ?_⟩
                exact ⟨c, xs, _, rfl, rfl, (same_upd nt) _ _ (kG _ _ cb ec5), by omega, k _ _ (putJ (k5.trans kG) (gG _ (g5 c0 hc0)) (kG _ _ nb hn5) nt (hI5.keepB B5 kG) (kG _ _ cb ec5) hz0.sh hz0.sh (by omega) (by omega) (fun hx hi => hx.app (.cons hi .nil)) (fun hd => (List.mem_append.mp hd).elim .inr fun h => .inl (List.mem_singleton.mp h)) (by rw [List.length_append]; show _ + 1 ≤ _; omega) (by omega))⟩
              · exact k _ _ ⟨⟨_, _, _, _, _, rfl⟩, B5, hn5, k5, g5, hF.imp id fun h => ⟨by omega, h.2⟩⟩
          · obtain ⟨⟨y6, y7, y8, y9, y10, rfl⟩, B5, hn5, k5, g5, hF⟩ := J4
            refine ⟨_, rfl, rfl, _, rfl, ite2 (fun e => ?_) (fun e => ?_)⟩
            · have r4 : r = 4 := by simp at e; omega
              obtain ⟨ec5, hI5⟩ : G4 c = some (.lst xs) ∧ Its G4 xs L := hF.resolve_right (fun h => by omega)
              refine ⟨_, rfl, Nat.zero_le _, fun p np => ⟨c, p, xs, rfl, rfl, SqL.of ((same_upd np) _ _ ec5), SqL.of upd_same, _, rfl, ?_⟩⟩
              have w5 := same_upd (o := .lst []) np
              have kw := k5.trans (Keep.same w5)
              have gw : ∀ d, BagAt H b d → BagAt (upd G4 p (.lst [])) b d := fun d hd => (g5 d hd).same w5
              have ecw := w5 _ _ ec5
              have hIw := hI5.same w5
              have Bw := B5.same w5
              have hnw := w5 _ _ hn5
              generalize upd G4 p (.lst []) = G at kw gw ecw hIw Bw hnw ⊢
              by_cases hxe : xs = []
              · rw [show xs.isEmpty = true by rw [hxe]; rfl]
                exact iteF (k _ _ ⟨⟨_, _, _, _, _, rfl⟩, Bw, hnw, kw, gw, .inl ⟨ecw, hIw⟩⟩)
              · rw [show xs.isEmpty = false by cases xs with | nil => exact absurd rfl hxe | cons _ _ => rfl]
                refine iteT ?_
                have hat' := hat hxe
                obtain ⟨f, hf, t, hv, ht⟩ := hIw.at_ at_ _ (List.getElem?_eq_getElem hat')
                have hxi : xs[at_]? = some (.ref t) := by rw [List.getElem?_eq_getElem hat', hv]
                have fm := List.mem_of_getElem? hf
                obtain ⟨fl, fu⟩ := hfb f fm
                refine ⟨_, rfl, _, rfl, c, xs, at_, _, rfl, rfl, SqL.of ecw, atI_nat hxi, t, _, rfl, SqT.of ht, rfl, _, _, rfl, _, _, rfl, _, _, rfl, rfl, ?_⟩
                simp only [gName, List.set_cons_zero, List.set_cons_succ]
                refine ⟨_, rfl, .inl ⟨rfl, _, SqL.of ecw⟩, _, rfl, _, rfl, _, rfl, _, rfl, _, _, rfl, rfl, by show 3 ≤ sizeLine; omega, fun t2 nt => ?_⟩
                exact ⟨c, xs, _, rfl, rfl, (same_upd nt) _ _ ecw, by omega, k _ _ (putJ kw (gw c0 hc0) hnw nt hIw ecw (src_shS hz (hsrc f fm).2) (src_shS hz (hsrc f fm).1) (by omega) (by omega) (fun hx hi => hx.app (.cons hi .nil)) (fun hd => (List.mem_append.mp hd).elim .inr fun h => .inl (List.mem_singleton.mp h)) (by rw [List.length_append]; show _ + 1 ≤ _; omega) (by omega))⟩
            · exact k _ _ ⟨⟨_, _, _, _, _, rfl⟩, B5, hn5, k5, g5, hF.imp id fun h => ⟨by omega, h.2⟩⟩
        · obtain ⟨⟨y6, y7, y8, y9, y10, rfl⟩, B5, hn5, k5, g5, hF⟩ := J3
          refine ⟨_, rfl, rfl, _, rfl, ite2 (fun e => ?_) (fun e => ?_)⟩
          · have r3 : r = 3 := by simp at e; omega
            obtain ⟨ec5, hI5⟩ : G3 c = some (.lst xs) ∧ Its G3 xs L := hF.resolve_right (fun h => by omega)
            refine ⟨_, rfl, .inl ⟨rfl, _, SqL.of ec5⟩, _, rfl, _, rfl, n, _, 0, _, rfl, rfl, SqL.of hn5, (atI_nat (j := 0) rfl), by show 3 ≤ sizeLine; omega, fun t nt => ?_⟩
            have line63 : (3 : Int) < 2 ^ 63 := by decide
            exact ⟨c, xs, at_, _, rfl, rfl, (same_upd nt) _ _ ec5, by omega, by omega, by omega, k _ _ (putJ k5 (g5 c0 hc0) hn5 nt hI5 ec5 hz0.sh (sh_lit (by decide +kernel)) (by decide) (by decide) (fun hx hi => ((hx.take _).app (.cons hi .nil)).app (hx.drop _)) mem_ins (by rw [List.length_append, List.length_append, List.length_take, List.length_drop]; show _ + 1 + _ ≤ _; omega) (by omega))⟩
          · exact k _ _ ⟨⟨_, _, _, _, _, rfl⟩, B5, hn5, k5, g5, hF.imp id fun h => ⟨by omega, h.2⟩⟩
      · refine ⟨_, rfl, rfl, _, rfl, ite2 (fun e => ?_) (fun e => ?_)⟩
        · have r2 : r = 2 := by simp at e; omega
          refine ⟨_, rfl, Nat.zero_le _, fun p np => ⟨c, p, xs, rfl, rfl, SqL.of ((same_upd np) _ _ ec4), SqL.of upd_same, _, rfl, ?_⟩⟩
          obtain ⟨Bc5, _, _⟩ := BagAt.new (o := .lst []) Bc4 np
          have w5 := same_upd (o := .lst []) np
          generalize upd H4 p (.lst []) = H5 at Bc5 w5 ⊢
          by_cases hxe : xs = []
          · rw [show xs.isEmpty = true by rw [hxe]; rfl]
            exact iteF (k _ _ (J0 (Keep.same w5) Bc5))
          · rw [show xs.isEmpty = false by cases xs with | nil => exact absurd rfl hxe | cons _ _ => rfl]
            refine iteT ?_
            have hat' := hat hxe
            obtain ⟨f, hf, t, hv, ht⟩ := hI4.at_ at_ _ (List.getElem?_eq_getElem hat')
            have hxi : xs[at_]? = some (.ref t) := by rw [List.getElem?_eq_getElem hat', hv]
            have fm := List.mem_of_getElem? hf
            obtain ⟨fl, fu⟩ := hfb f fm
            have ec5 := w5 _ _ ec4
            refine ⟨_, rfl, _, rfl, c, xs, at_, _, rfl, rfl, SqL.of ec5, atI_nat hxi, t, _, rfl, SqT.of (w5 _ _ ht), fun one n1 m1 => ?_⟩
            obtain ⟨Bc6, oneb, onec0⟩ := BagAt.new (o := .lst [.str f.1, .str f.2.1, .int f.2.2]) Bc5 n1
            have onec : one ≠ c := (ne_of_none ec5 n1).symm
            have n1H : ∀ a o, H4 a = some o → a ≠ one := fun a o e => ne_of_none (w5 _ _ e) n1
            have e1 : (upd H5 one (.lst [.str f.1, .str f.2.1, .int f.2.2])) one = some (.lst [.str f.1, .str f.2.1, .int f.2.2]) := upd_same
            have k6 : Keep b H4 (upd H5 one (.lst [.str f.1, .str f.2.1, .int f.2.2])) := (Keep.same w5).trans (Keep.new n1)
            generalize upd H5 one (.lst [.str f.1, .str f.2.1, .int f.2.2]) = H6 at Bc6 e1 k6 ⊢
            refine ⟨_, rfl, b, 3, rfl, Bc6.bag, by decide, by decide, fun kk G hk BG kG gG => ⟨_, _, rfl, ?_⟩⟩
            simp only [gName, List.set_cons_zero, List.set_cons_succ]
            refine ⟨_, rfl, _, rfl, _, rfl, one, _, kk, kk, rfl, rfl, kG _ _ oneb e1, ixNn (by show kk < 3; omega), ?_⟩
            have hyD : ∀ {G : Hp}, Keep b H4 G → DqAll (del G c) b ([V.str f.1, .str f.2.1, .int f.2.2].set kk ov) ([PyData.str f.1, .str f.2.1, .int f.2.2].set kk od) := fun {G} kG => DqAll.set kk (.cons (.str _) (.cons (.str _) (.cons (.int _) .nil))) (oddK kG)
            have hyS : ∀ d ∈ [PyData.str f.1, .str f.2.1, .int f.2.2].set kk od, Shd 3 200 d := fun d hd => by
              rcases mem_set hd with rfl | hd
              · exact og.shd
              · simp only [List.mem_cons, List.not_mem_nil, or_false] at hd
                rcases hd with rfl | rfl | rfl
                · exact (shd_str (src_shS hz (hsrc f fm).1)).mono (by decide) (by decide)
                · exact (shd_str (src_shS hz (hsrc f fm).2)).mono (by decide) (by decide)
                · exact (shd_int (by omega) (by omega)).mono (by decide) (by decide)
            have yl : ([V.str f.1, .str f.2.1, .int f.2.2].set kk ov).length = 3 := by rw [List.length_set]; rfl
            have dl : ([PyData.str f.1, .str f.2.1, .int f.2.2].set kk od).length = 3 := by rw [List.length_set]; rfl
            have Bc7 : BagAt (upd G one (.lst ([V.str f.1, .str f.2.1, .int f.2.2].set kk ov))) b c0 := (gG _ Bc6).put oneb onec0
            have k7 : Keep b H4 (upd G one (.lst ([V.str f.1, .str f.2.1, .int f.2.2].set kk ov))) := fun a o na e => by
              rw [upd_ne (n1H a o e)]
              exact kG _ _ na (k6 _ _ na e)
            have e7 : (upd G one (.lst ([V.str f.1, .str f.2.1, .int f.2.2].set kk ov))) one = some (.lst ([V.str f.1, .str f.2.1, .int f.2.2].set kk ov)) := upd_same
            generalize [V.str f.1, .str f.2.1, .int f.2.2].set kk ov = ys at hyD yl Bc7 k7 e7 ⊢
            generalize [PyData.str f.1, .str f.2.1, .int f.2.2].set kk od = dd at hyD hyS dl
            generalize upd G one (.lst ys) = H7 at Bc7 k7 e7 ⊢
            refine ⟨_, rfl, one, ys, rfl, .inl ⟨SqL.of e7, fun t1 nt1 => ?_⟩⟩
            obtain ⟨Bc8, t1b, _⟩ := BagAt.new (o := .tup ys) Bc7 nt1
            have w8 := same_upd (o := .tup ys) nt1
            have q1 : (upd H7 t1 (.tup ys)) t1 = some (.tup ys) := upd_same
            generalize upd H7 t1 (.tup ys) = H8 at Bc8 w8 q1 ⊢
            refine ⟨_, rfl, _, rfl, by show 1 ≤ sizeLine; omega, fun l1 nl1 ml1 => ?_⟩
            obtain ⟨Bc9, _, _⟩ := BagAt.new (o := .lst [.int 0]) Bc8 nl1
            have w9 := same_upd (o := .lst [.int 0]) nl1
            have q2 : (upd H8 l1 (.lst [.int 0])) l1 = some (.lst [.int 0]) := upd_same
            generalize upd H8 l1 (.lst [.int 0]) = H9 at Bc9 w9 q2 ⊢
            have w79 := w8.trans w9
            refine ⟨one, l1, _, _, rfl, rfl, w79 _ _ e7, q2, (by show _ + 1 ≤ _; omega), fun l2 nl2 ml2 => ?_⟩
            obtain ⟨BcA, _, _⟩ := BagAt.new (o := .lst (ys ++ [.int 0])) Bc9 nl2
            have wA := same_upd (o := .lst (ys ++ [.int 0])) nl2
            have q3 : (upd H9 l2 (.lst (ys ++ [.int 0]))) l2 = some (.lst (ys ++ [.int 0])) := upd_same
            generalize upd H9 l2 (.lst (ys ++ [.int 0])) = HA at BcA wA q3 ⊢
            refine ⟨l2, _, rfl, .inl ⟨SqL.of q3, fun t2 nt2 => ?_⟩⟩
            obtain ⟨BcB, t2b, _⟩ := BagAt.new (o := .tup (ys ++ [.int 0])) BcA nt2
            have wB := same_upd (o := .tup (ys ++ [.int 0])) nt2
            have q4 : (upd HA t2 (.tup (ys ++ [.int 0]))) t2 = some (.tup (ys ++ [.int 0])) := upd_same
            have w8B := w9.trans (wA.trans wB)
            have w7B := w8.trans w8B
            generalize upd HA t2 (.tup (ys ++ [.int 0])) = HB at BcB wB q4 w8B w7B ⊢
            refine ⟨_, rfl, _, rfl, one, _, rfl, SqL.of (w7B _ _ e7), fun l3 nl3 ml3 => ?_⟩
            rw [show cutV ys none (some 2) = ys.take 2 from cut_to _ 2]
            obtain ⟨BcC, _, _⟩ := BagAt.new (o := .lst (ys.take 2)) BcB nl3
            have wC := same_upd (o := .lst (ys.take 2)) nl3
            have q5 : (upd HB l3 (.lst (ys.take 2))) l3 = some (.lst (ys.take 2)) := upd_same
            generalize upd HB l3 (.lst (ys.take 2)) = HC at BcC wC q5 ⊢
            refine ⟨l3, _, rfl, .inl ⟨SqL.of q5, fun t3 nt3 => ?_⟩⟩
            obtain ⟨BcD, t3b, _⟩ := BagAt.new (o := .tup (ys.take 2)) BcC nt3
            have wD := same_upd (o := .tup (ys.take 2)) nt3
            have q6 : (upd HC t3 (.tup (ys.take 2))) t3 = some (.tup (ys.take 2)) := upd_same
            have wBD := wC.trans wD
            generalize upd HC t3 (.tup (ys.take 2)) = HD at BcD wD q6 wBD ⊢
            refine ⟨by show 4 ≤ sizeLine; omega, fun p2 np2 mp2 => ?_⟩
            obtain ⟨BcE, p2b, _⟩ := BagAt.new (o := .lst [.ref t1, .ref one, .ref t2, .ref t3]) BcD np2
            have wE := same_upd (o := .lst [.ref t1, .ref one, .ref t2, .ref t3]) np2
            have q7 : (upd HD p2 (.lst [.ref t1, .ref one, .ref t2, .ref t3])) p2 = some (.lst [.ref t1, .ref one, .ref t2, .ref t3]) := upd_same
            have e1E := wE _ _ (wBD _ _ (w7B _ _ e7))
            have q1E := wE _ _ (wBD _ _ (w8B _ _ q1))
            have q4E := wE _ _ (wBD _ _ q4)
            have q6E := wE _ _ q6
            have kE := k7.trans (Keep.same (w7B.trans (wBD.trans wE)))
            generalize upd HD p2 (.lst [.ref t1, .ref one, .ref t2, .ref t3]) = HE at BcE q7 e1E q1E q4E q6E kE ⊢
            refine ⟨_, rfl, b, 4, rfl, BcE.bag, by decide, by decide, fun j F hj BF kF gF => ?_⟩
            have kF4 := kE.trans kF
            have ecF := kF4 _ _ cb ec4
            have BcF := gF _ BcE
            have tc : ∀ {t : Addr} {vs : List V}, F t = some (.tup vs) → t ≠ c := fun {t vs} e z => by
              rw [z, ecF] at e
              cases e
            have fin2 : ∀ {v : V} {dv : PyData} {y6 y7 y8 y9 y10 : Option V}, Dq (del F c) b v dv → Shd 4 1200 dv → BentJ H b n c (z0 :: zt) xs L r at_ ov 3 [some (.ref b), some (.ref n), some (.ref c), some (.int r), some (.int at_), some ov, y6, y7, y8, y9, y10] (upd F c (.lst (xs.set at_ v))) := fun {v dv y6 y7 y8 y9 y10} hv sv =>
              ⟨⟨_, _, _, _, _, rfl⟩, (BcF.put cb cc0).bag, by rw [upd_ne ncn]; exact kF4 _ _ nb hn4, fun a o na e => by rw [upd_ne (ne_of_none e nc0)]; exact (kk4.trans kF4) _ _ na e, onlyC (BcF.put cb cc0),
                .inr ⟨by omega, _, (L.map faD).set at_ dv, upd_same, by rw [del_upd]; exact (Its.dq (del_bt BcF.bag) ((hI4.keepB B4 kF4).del ecF)).set at_ hv, by rw [List.length_set]; omega, fun d hd => by
                  rcases mem_set hd with rfl | hd
                  · exact sv
                  · exact sF d hd⟩⟩
            have hj : j < 4 := by omega
            have hyF := hyD kF4
            have upS : ∀ {es : List PyData}, (∀ d ∈ es, Shd 3 200 d) → es.length ≤ 4 → ShdS 3 (4 * (200 + 2)) es := fun h l => ShdS.upTo h l
            match j, hj with
            | 0, _ => exact ⟨p2, _, 0, _, rfl, rfl, SqL.of (kF _ _ p2b q7), rfl, _, rfl, _, rfl, c, xs, at_, at_, rfl, rfl, ecF, ixNn hat', k _ _ (fin2 (.tup (by rw [del_ne (tc (kF _ _ t1b q1E))]; exact kF _ _ t1b q1E) t1b hyF) (((upS hyS (by omega)).tup (by omega)).mono (by decide) (by decide)))⟩
            | 1, _ => exact ⟨p2, _, 1, _, rfl, rfl, SqL.of (kF _ _ p2b q7), rfl, _, rfl, _, rfl, c, xs, at_, at_, rfl, rfl, ecF, ixNn hat', k _ _ (fin2 (.lst (by rw [del_ne onec]; exact kF _ _ oneb e1E) oneb m1 hyF) (((upS hyS (by omega)).lst (by omega)).mono (by decide) (by decide)))⟩
            | 2, _ =>
              refine ⟨p2, _, 2, _, rfl, rfl, SqL.of (kF _ _ p2b q7), rfl, _, rfl, _, rfl, c, xs, at_, at_, rfl, rfl, ecF, ixNn hat', k _ _ (fin2 (.tup (by rw [del_ne (tc (kF _ _ t2b q4E))]; exact kF _ _ t2b q4E) t2b (hyF.app (.cons (.int 0) .nil))) ?_)⟩
              have l4 : (dd ++ [PyData.int 0]).length ≤ 4 := by
                rw [List.length_append]
                show _ + 1 ≤ _
                omega
              refine ((upS (fun d hd => ?_) l4).tup (by omega)).mono (by decide) (by decide)
              rcases List.mem_append.mp hd with hd | hd
              · exact hyS d hd
              · obtain rfl := List.mem_singleton.mp hd
                exact (shd_int (by decide) (by decide)).mono (by decide) (by decide)
            | 3, _ => exact ⟨p2, _, 3, _, rfl, rfl, SqL.of (kF _ _ p2b q7), rfl, _, rfl, _, rfl, c, xs, at_, at_, rfl, rfl, ecF, ixNn hat', k _ _ (fin2 (.tup (by rw [del_ne (tc (kF _ _ t3b q6E))]; exact kF _ _ t3b q6E) t3b (hyF.take 2)) (((upS (fun d hd => hyS d (mem_take hd)) (by rw [List.length_take]; omega)).tup (by rw [List.length_take]; omega)).mono (by decide) (by decide)))⟩
        · exact k _ _ (J0 Keep.refl Bc4)
    · refine ⟨_, rfl, Nat.zero_le _, fun p np => ⟨c, p, xs, rfl, rfl, SqL.of ((same_upd np) _ _ ec2), SqL.of upd_same, _, rfl, ?_⟩⟩
      have s3 := same_upd (o := .lst []) np
      by_cases hxe : xs = []
      · rw [show xs.isEmpty = true by rw [hxe]; rfl]
        refine iteF (k _ _ ⟨0, rfl, fun h => absurd hxe h, by decide, B2.same s3, s3 _ _ hn2, s3 _ _ ec2, hI2.same s3, k2.trans (Keep.same s3), fun d hd => (g2 d hd).same s3⟩)
      · have pos : 0 < xs.length := List.length_pos_iff.mpr hxe
        rw [show xs.isEmpty = false by cases xs with | nil => exact absurd rfl hxe | cons _ _ => rfl]
        refine iteT ⟨_, rfl, _, rfl, c, xs, rfl, .inl (SqL.of (s3 _ _ ec2)), b, xs.length, rfl, B2.same s3, by omega, by omega, fun at_ G hat BG kG gG => ?_⟩
        exact k _ _ ⟨at_, rfl, fun _ => by omega, by omega, BG, kG _ _ nb (s3 _ _ hn2), kG _ _ cb (s3 _ _ ec2), (hI2.same s3).keepB (B2.same s3) kG, (k2.trans (Keep.same s3)).trans kG, fun d hd => gG d ((g2 d hd).same s3)⟩
end
end Fv


set_option Elab.async false
set_option linter.all false
set_option maxRecDepth 100000
set_option maxHeartbeats 4000000
namespace Fv
open PySem PySem.Spec PyProof.Rows L2
/-! ### a fault more -/
abbrev sMore : Stmt := top 40
abbrev nMo : List Str := ["_law_bag_here", "_law_names_here", "_law_handed", "_law_odd_here", "_law_faults"]
/-- the handed list, for good -/
def Hand2 (H : Hp) (b h : Addr) : Prop := ∃ (v0 v1 : V) (d0 d1 : PyData), H h = some (.lst [v0, v1]) ∧ h ≠ b ∧ h ≠ sysModules ∧ Shd 4 2000 d0 ∧ (itemsD d0).length ≤ 5 ∧ Shd 5 24000 d1 ∧ (itemsD d1).length ≤ 6 ∧ Dq (del H h) b v0 d0 ∧ Dq (del H h) b v1 d1
theorem Hand.two {H : Hp} {b h : Addr} {A : Addr → Prop} (k : Hand H b A h) : Hand2 H b h := by
  obtain ⟨v0, v1, d0, d1, e, hb, hm, _, s0, l0, s1, l1, r⟩ := k
  refine ⟨v0, v1, d0, d1, e, hb, hm, s0, l0, ⟨s1.m, s1.rp.mono (Nat.le_refl _) (by decide)⟩, by omega, ?_⟩
  rcases r with ⟨c, xs, ds, rfl, rfl, cb, ch, cm, _, ec, hx, h0⟩ | ⟨_, h1, h0⟩
  · exact ⟨h0.mono fun a o _ e => del_sub _ _ e, .lst (by rw [del_ne ch]; exact ec) cb cm (hx.mono fun a o _ e => del_sub _ _ e)⟩
  · exact ⟨h0, h1⟩
theorem del3 {H : Hp} {h c : Addr} {u : HO} : ∀ a o, del (del H h) c a = some o → del (upd H c u) h a = some o := fun a o e => by
  have nc : a ≠ c := fun z => by rw [z, del_same] at e; cases e
  rw [del_ne nc] at e
  have nh : a ≠ h := fun z => by rw [z, del_same] at e; cases e
  rw [del_ne nh, upd_ne nc]
  rw [del_ne nh] at e
  exact e
theorem kit_listQ {K : PySem.W.Frag} (d : PyData) : PySem.W.kitOne K (.type (tyN d)) (.type "list") = some (isListD d) := by
  cases d
  · exact kit_ty (a := "NoneType") (b := "list") (r := false) (by decide +kernel)
  · exact kit_ty (a := "bool") (b := "list") (r := false) (by decide +kernel)
  · exact kit_ty (a := "int") (b := "list") (r := false) (by decide +kernel)
  · exact kit_ty (a := "str") (b := "list") (r := false) (by decide +kernel)
  · exact kit_ty (a := "list") (b := "list") (r := true) (by decide +kernel)
  · exact kit_ty (a := "tuple") (b := "list") (r := false) (by decide +kernel)
  · exact kit_ty (a := "dict") (b := "list") (r := false) (by decide +kernel)
theorem szs_app : ∀ a b : List PyData, szs (a ++ b) = szs a + szs b
  | [], b => by simp [szs]
  | d :: a, b => by
    rw [List.cons_append, szs, szs, szs_app a b]
    omega
theorem dep_app : ∀ a b : List PyData, PyData.depthAll (a ++ b) = max (PyData.depthAll a) (PyData.depthAll b)
  | [], b => by simp [PyData.depthAll]
  | d :: a, b => by
    rw [List.cons_append, PyData.depthAll, PyData.depthAll, dep_app a b]
    omega
theorem sho_app : ∀ a b : List PyData, PyData.showableAll (a ++ b) = (PyData.showableAll a && PyData.showableAll b)
  | [], b => by simp [PyData.showableAll]
  | d :: a, b => by
    rw [List.cons_append, PyData.showableAll, PyData.showableAll, sho_app a b, Bool.and_assoc]
theorem insS {d : PyData} {ds : List PyData} {m : Nat} (hd : Rp 4 1200 d) (h : Rp 5 20000 (.list ds)) : RpS 4 21300 (ds.take m ++ [d] ++ ds.drop m) := by
  obtain ⟨h1, h2, h3⟩ := h
  rw [PyData.showable] at h1
  rw [sz] at h2
  rw [PyData.depth] at h3
  have e := List.take_append_drop m ds
  have c1 := szs_app (ds.take m) (ds.drop m)
  have c2 := dep_app (ds.take m) (ds.drop m)
  have c3 := sho_app (ds.take m) (ds.drop m)
  rw [e] at c1 c2 c3
  rw [c3, Bool.and_eq_true] at h1
  have d1 := hd.len
  have d2 := hd.dp
  refine ⟨?_, ?_, ?_⟩
  · rw [sho_app, sho_app, h1.1, h1.2]
    unfold PyData.showableAll
    rw [hd.sh]
    unfold PyData.showableAll
    rfl
  · rw [szs_app, szs_app]
    show _ + (sz d + 2 + 0) + _ ≤ _
    omega
  · rw [dep_app, dep_app]
    have e2 : PyData.depthAll [d] = d.depth := by
      rw [PyData.depthAll, PyData.depthAll]
      exact Nat.max_zero _
    rw [e2]
    omega
/-- what stands behind the first fault -/
def MoreJ (b n h c0 : Addr) (zs : List Str) (ov : V) (od : PyData) (σ : L2.St) (H : Hp) : Prop := ∃ (y4 : Option V) (v0 v1 : V) (d0 d1 : PyData), σ = [some (.ref b), some (.ref n), some (.ref h), some ov, y4] ∧ BagAt H b c0 ∧ H n = some (.lst (zs.map V.str)) ∧ H h = some (.lst [v0, v1]) ∧
  Shd 4 2000 d0 ∧ (itemsD d0).length ≤ 5 ∧ Shd 5 24000 d1 ∧ (itemsD d1).length ≤ 6 ∧ Dq (del H h) b v0 d0 ∧ Dq (del H h) b v1 d1 ∧ Dq (del H h) b ov od
section
variable {P : Program} {w : World} {K : PySem.W.Frag} {mg : Str → Option Value} {base : Heap} {C : Addr}
def spMoreB : Sp := fun vs H Q _ => ∃ (b n h : Addr) (zs : List Str) (A : Addr → Prop), vs = [.ref b, .ref n, .ref h] ∧ Bag H b ∧ H n = some (.lst (zs.map V.str)) ∧ n ≠ b ∧ 1 ≤ zs.length ∧ (∀ z ∈ zs, NmOk z) ∧ Hand H b A h ∧ A n ∧ (∀ c, BagAt H b c → A c) ∧
  ∀ H', Hand2 H' b h → Bag H' b → Q (.ref h) H'
theorem scMo : FnScope nMo ["_law_bag_here", "_law_names_here", "_law_handed"] (defScope sMore) := ⟨rfl, rfl, rfl, by decide +kernel, rfl, by decide +kernel, by decide +kernel⟩
theorem ok_moreb {f fT fO : Addr} {fd fdT fdO : FuncData} (F : Fun K "_law_more_bent" "_law_more_bent" sMore f fd)
    (GT : FnOk P w K mg base CX0 1 fT fdT ["_law_bag_here", "_law_many"] spTake) (bT : Binds K fdT ["_law_bag_here", "_law_many"] []) (mT : mg "_law_take" = some (.ref fT)) (kT : PySem.W.keepIn K (.ref fT) = true)
    (GO : FnOk P w K mg base CX0 2 fO fdO ["_law_bag_here", "_law_name"] spOddQ) (bO : Binds K fdO ["_law_bag_here", "_law_name"] []) (mO : mg "_law_odd" = some (.ref fO)) (kO : PySem.W.keepIn K (.ref fO) = true)
    (mq : mg "isinstance" = none) (mL : mg "list" = none) (ml : mg "len" = none) : FnOk P w K mg base CX0 3 f fd ["_law_bag_here", "_law_names_here", "_law_handed"] spMoreB := by
  refine F.ok scMo (fun vs H Q E h => ?_) (fun cdv A outer s H vs Q E hr h => ?_)
  · obtain ⟨b, n, h, _, _, rfl, _⟩ := h
    rfl
  · obtain ⟨b, n, h, zs, A, rfl, B, hn, nb, z1, hz, hh, An, Ac, q⟩ := h
    have hr1 : Room 1 _ := hr.mono (by decide)
    have hu := hu_of hr
    refine ⟨_, pss_cons (ps_set (i := 3) scMo.nd rfl (.inl rfl) (pe_call GO hr (by rfl) mO kO bO .nil pass0 (pa_cons (pv 0) (pa_cons (pe_ix ix_list (pv 1) pe_int (fun _ _ => rfl)) pa_nil))))
      (pss_cons (ps_if (pt_val (pe_callB call_isi (by rfl) mq (by decide +kernel) (pa_cons (pe_ix (r := rIxL K) ix_list (pv 2) pe_int (fun _ _ => rfl)) (pa_cons (pe_bltn (v := .ty "list") (by rfl) mL boot_list rfl) pa_nil))))
          (pss_cons (ps_set (i := 4) scMo.nd rfl (.inl rfl) (pe_lst (pa_cons (pv 3) (pa_cons (pe_tup (pa_cons pe_str (pa_cons (pe_ix ix_list (pv 1) pe_int (fun _ _ => rfl)) (pa_cons pe_int pa_nil)))) (pa_cons (pe_tup (pa_cons (pe_ix ix_list (pv 1) pe_int (fun _ _ => rfl)) (pa_cons (pe_ix ix_list (pv 1) pe_int (fun _ _ => rfl)) (pa_cons (pe_un un_neg pe_int) pa_nil))))
              (pa_cons (pe_tup (pa_cons pe_str (pa_cons pe_str (pa_cons pe_int pa_nil)))) (pa_cons (pe_tup (pa_cons pe_str (pa_cons pe_str (pa_cons (pe_un un_neg pe_int) pa_nil)))) pa_nil)))))))
          (pss_cons (ps_expr (pe_bm PySem.F.plainAttrs_list PySem.F.slot_list_append PySem.F.type_list_append mt_append (pv 4) (pa_cons (pe_tup (pa_cons pe_str (pa_cons pe_str (pa_cons pe_int pa_nil)))) pa_nil)))
          (pss_one (ps_expr (pe_bm PySem.F.plainAttrs_list PySem.F.slot_list_insert PySem.F.type_list_insert mt_insert (pe_ix ix_list (pv 2) pe_int (fun _ _ => rfl)) (pa_cons (pe_call GT hr1 (by rfl) mT kT bT .nil pass0 (pa_cons (pv 0) (pa_cons (pe_op op_add (pe_callB call_len_seq (by rfl) ml PySem.boot_len (pa_cons (pe_ix ix_list (pv 2) pe_int (fun _ _ => rfl)) pa_nil)) pe_int) pa_nil)))
              (pa_cons (pe_ix ix_list (pv 4) (pe_call GT hr1 (by rfl) mT kT bT .nil pass0 (pa_cons (pv 0) (pa_cons pe_int pa_nil))) (fun _ _ => rfl)) pa_nil))))))) pss_nil)
      (pss_cons (ps_if (pt_cmpR op_eq (pe_call GT hr1 (by rfl) mT kT bT .nil pass0 (pa_cons (pv 0) (pa_cons pe_int pa_nil))) pe_int (nomark _)) (pss_one (ps_asg (pv 3) (pg_sub (pv 2) pe_int set_list))) pss_nil)
      (pss_cons (ps_if (pt_cmpR op_eq (pe_call GT hr1 (by rfl) mT kT bT .nil pass0 (pa_cons (pv 0) (pa_cons pe_int pa_nil))) pe_int (nomark _)) (pss_one (ps_asg (pe_call GO hr (by rfl) mO kO bO .nil pass0 (pa_cons (pv 0) (pa_cons (pe_ix ix_list (pv 1) pe_int (fun _ _ => rfl)) pa_nil))) (pg_sub (pv 2) pe_int set_list))) pss_nil)
      (pss_one (ps_ret (pv 2)))))), ?_⟩
    rw [show L2.start nMo [V.ref b, V.ref n, V.ref h] = [some (.ref b), some (.ref n), some (.ref h), none, none] from rfl]
    obtain ⟨z0, zt, rfl⟩ : ∃ z0 zt, zs = z0 :: zt := by
      cases zs with
      | nil => exact absurd z1 (by decide)
      | cons z0 zt => exact ⟨z0, zt, rfl⟩
    have hz0 : NmOk z0 := hz z0 List.mem_cons_self
    have h100 : 100 ≤ sizeLine := by decide
    have line63 : (100 : Int) < 2 ^ 63 := by decide
    obtain ⟨v0, v1, d0, d1, eh, hb', hm, Ah, s0, l0, s1, l1, hr⟩ := hh
    obtain ⟨c0, hc0⟩ : ∃ c0, BagAt H b c0 := id B
    have Ac0 := Ac c0 hc0
    have nh := Ah n An
    have c0h := Ah c0 Ac0
    obtain ⟨f2, f2b, ⟨of2, ef2⟩, hf2⟩ : ∃ f2, f2 ≠ b ∧ (∃ o, H f2 = some o) ∧ ∀ c, v1 = .ref c → isListD d1 = true → f2 = c := by
      rcases hr with ⟨c, xs, ds, rfl, rfl, cb, ch, cm, Ac, ec, hx, h0⟩ | ⟨hl, h1, h0⟩
      · exact ⟨c, cb, ⟨_, ec⟩, fun c' e _ => V.ref.inj e⟩
      · exact ⟨h, hb', ⟨_, eh⟩, fun c e l => by rw [hl] at l; cases l⟩
    refine ⟨_, rfl, _, rfl, n, _, 0, _, rfl, rfl, SqL.of hn, (atI_nat (j := 0) rfl), b, (fun a => a = h ∨ a = f2), z0, rfl, B, (fun a ha => by
      rcases ha with rfl | rfl
      · exact ⟨hb', _, eh⟩
      · exact ⟨f2b, _, ef2⟩), hz0, fun ov od H1 hO og of_ B1 k1 g1 => ?_⟩
    simp only [gName, List.set_cons_zero, List.set_cons_succ]
    have eh1 := k1 _ _ hb' eh
    have hn1 := k1 _ _ nb hn
    have Bc1 := g1 c0 hc0
    have hOh : ∀ {G : Hp}, Keep b H1 G → Dq (del G h) b ov od := fun {G} kG => hO.mono fun a o na e => by
      rw [del_ne fun z => mskN e (.inl z)]
      exact kG _ _ na (mskS e)
    have tup0 : ∀ {G : Hp} {t : Addr} {x y : Str} {i : Int}, G t = some (.tup [.str x, .str y, .int i]) → t ≠ b → Dq G b (.ref t) (.tuple [.str x, .str y, .int i]) := fun {G t x y i} e tb => .tup e tb (.cons (.str _) (.cons (.str _) (.cons (.int _) .nil)))
    refine cutK (MoreJ b n h c0 (z0 :: zt) ov od) ?_ (fun k => ?_)
    · rintro σ' G3 ⟨y4, v0, v1, d0, d1, rfl, Bc3, hn3, eh3, s0, l0, s1, l1, q0, q1, qo⟩
      refine cutK (fun σ' H' => ∃ (v0 : V) (d0 : PyData), σ' = [some (.ref b), some (.ref n), some (.ref h), some ov, y4] ∧ BagAt H' b c0 ∧ H' n = some (.lst ((z0 :: zt).map V.str)) ∧ H' h = some (.lst [v0, v1]) ∧ Shd 4 2000 d0 ∧ (itemsD d0).length ≤ 5 ∧ Dq (del H' h) b v0 d0 ∧ Dq (del H' h) b v1 d1) ?_ (fun k => ?_)
      · rintro σ' G4 ⟨v0, d0, rfl, Bc4, hn4, eh4, s0, l0, q0, q1⟩
        refine cutK (fun σ' H' => σ' = [some (.ref b), some (.ref n), some (.ref h), some ov, y4] ∧ Hand2 H' b h ∧ Bag H' b) ?_ (fun k => ?_)
        · rintro σ' G5 ⟨rfl, h2, B5⟩
          exact ⟨_, rfl, q G5 h2 B5⟩
        · refine ⟨_, rfl, b, 4, rfl, Bc4.bag, by decide, by decide, fun tk G htk BG kG gG => ⟨rfl, _, rfl, ite2 (fun e => ?_) (fun e => ?_)⟩⟩
          · clear e
            have ehG := kG _ _ hb' eh4
            refine ⟨_, rfl, _, rfl, n, _, 0, _, rfl, rfl, SqL.of (kG _ _ nb hn4), (atI_nat (j := 0) rfl), b, (fun a => a = h), z0, rfl, BG, (fun a ha => by
              subst ha
              exact ⟨hb', _, ehG⟩), hz0, fun ow oe F hO2 og2 of2 BF kF gF => ?_⟩
            have ehF := kF _ _ hb' ehG
            refine ⟨_, rfl, h, _, 1, 1, rfl, rfl, ehF, rfl, k _ _ ⟨rfl, ⟨v0, ow, d0, oe, upd_same, hb', hm, s0, l0, og2.shd.mono (by decide) (by decide), Nat.le_trans of2.1 (by decide), ?_, ?_⟩, ?_⟩⟩
            · rw [del_upd]
              exact q0.mono (del_keep (kG.trans kF))
            · rw [del_upd]
              exact hO2.mono fun a o na e => by
                rw [del_ne fun z => mskN (F := fun a => a = h) e z]
                exact mskS e
            · exact ((gF _ (gG _ Bc4)).put hb' c0h.symm).bag
          · exact k _ _ ⟨rfl, ⟨v0, v1, d0, d1, kG _ _ hb' eh4, hb', hm, s0, l0, s1, l1, q0.mono (del_keep kG), q1.mono (del_keep kG)⟩, BG⟩
      · refine ⟨_, rfl, b, 4, rfl, Bc3.bag, by decide, by decide, fun tk G htk BG kG gG => ⟨rfl, _, rfl, ite2 (fun e => ?_) (fun e => ?_)⟩⟩
        · clear e
          refine ⟨_, rfl, _, rfl, h, _, 0, 0, rfl, rfl, kG _ _ hb' eh3, rfl, k _ _ ⟨ov, od, rfl, (gG _ Bc3).put hb' c0h.symm, by rw [upd_ne nh]; exact kG _ _ nb hn3, upd_same, og.shd.mono (by decide) (by decide), Nat.le_trans of_.1 (by decide), ?_, ?_⟩⟩
          · rw [del_upd]
            exact qo.mono (del_keep kG)
          · rw [del_upd]
            exact q1.mono (del_keep kG)
        · exact k _ _ ⟨v0, d0, rfl, gG _ Bc3, kG _ _ nb hn3, kG _ _ hb' eh3, s0, l0, q0.mono (del_keep kG), q1.mono (del_keep kG)⟩
    · have q1t : Dq H b v1 d1 := by
        rcases hr with ⟨c, xs, ds, rfl, rfl, cb, ch, cm, Ac, ec, hx, h0⟩ | ⟨hl, h1, h0⟩
        · exact .lst ec cb cm (hx.mono fun a o _ e => del_sub _ _ (del_sub _ _ e))
        · exact h1.mono fun a o _ e => del_sub _ _ e
      have tyV1 : TyX K H1 v1 (.type (tyN d1)) := (q1t.mono k1).ty
      refine ⟨_, rfl, h, _, 1, _, rfl, rfl, SqL.of eh1, rfl, _, _, _, _, _, rfl, .ty "list", tyV1, kit_listQ d1, _, rfl, ?_⟩
      rcases hr with ⟨c, xs, ds, rfl, rfl, cb, ch, cm, Acc, ec, hx, h0⟩ | ⟨hl, h1, h0⟩
      · obtain rfl := hf2 c rfl rfl
        refine iteT ?_
        have ec1 := k1 _ _ cb ec
        have nc := Acc n An
        have c0c := Acc c0 Ac0
        have hO2 : ∀ {G : Hp}, Keep b H1 G → Dq (del (del G h) f2) b ov od := fun {G} kG => hO.mono fun a o na e => by
          rw [del_ne (fun z => mskN e (.inr z)), del_ne fun z => mskN e (.inl z)]
          exact kG _ _ na (mskS e)
        have hl3 : ds.length ≤ 5 := l1
        have xl := hx.ln
        refine ⟨_, rfl, _, rfl, n, _, 0, _, rfl, rfl, SqL.of hn1, (atI_nat (j := 0) rfl), by show 3 ≤ sizeLine; omega, fun t1 nt1 => ?_⟩
        have w1 := same_upd (o := .tup [.str ("zzzzzzzz" : Str), .str z0, .int 0]) nt1
        have q1 : (upd H1 t1 (.tup [.str ("zzzzzzzz" : Str), .str z0, .int 0])) t1 = some (.tup [.str ("zzzzzzzz" : Str), .str z0, .int 0]) := upd_same
        generalize upd H1 t1 (.tup [.str ("zzzzzzzz" : Str), .str z0, .int 0]) = G1 at w1 q1 ⊢
        have hnG1 := w1 _ _ hn1
        refine ⟨_, rfl, n, _, 0, _, rfl, rfl, SqL.of hnG1, (atI_nat (j := 0) rfl), _, rfl, n, _, 0, _, rfl, rfl, SqL.of hnG1, (atI_nat (j := 0) rfl), _, rfl, by show 3 ≤ sizeLine; omega, fun t2 nt2 => ?_⟩
        have w2' := same_upd (o := .tup [.str z0, .str z0, .int (-1)]) nt2
        have q2 : (upd G1 t2 (.tup [.str z0, .str z0, .int (-1)])) t2 = some (.tup [.str z0, .str z0, .int (-1)]) := upd_same
        generalize upd G1 t2 (.tup [.str z0, .str z0, .int (-1)]) = G2 at w2' q2 ⊢
        have w2 := w1.trans w2'
        refine ⟨by show 3 ≤ sizeLine; omega, fun t3 nt3 => ?_⟩
        have w3' := same_upd (o := .tup [.str ("" : Str), .str ("qqqqqqqq" : Str), .int 1]) nt3
        have q3 : (upd G2 t3 (.tup [.str ("" : Str), .str ("qqqqqqqq" : Str), .int 1])) t3 = some (.tup [.str ("" : Str), .str ("qqqqqqqq" : Str), .int 1]) := upd_same
        generalize upd G2 t3 (.tup [.str ("" : Str), .str ("qqqqqqqq" : Str), .int 1]) = G3 at w3' q3 ⊢
        have w3 := w2.trans w3'
        refine ⟨_, rfl, by show 3 ≤ sizeLine; omega, fun t4 nt4 => ?_⟩
        have w4' := same_upd (o := .tup [.str ("" : Str), .str ("" : Str), .int (-1)]) nt4
        have q4 : (upd G3 t4 (.tup [.str ("" : Str), .str ("" : Str), .int (-1)])) t4 = some (.tup [.str ("" : Str), .str ("" : Str), .int (-1)]) := upd_same
        generalize upd G3 t4 (.tup [.str ("" : Str), .str ("" : Str), .int (-1)]) = G4 at w4' q4 ⊢
        have w4 := w3.trans w4'
        refine ⟨by show 5 ≤ sizeLine; omega, fun l nl => ?_⟩
        have w5' := same_upd (o := .lst [ov, .ref t1, .ref t2, .ref t3, .ref t4]) nl
        have el : (upd G4 l (.lst [ov, .ref t1, .ref t2, .ref t3, .ref t4])) l = some (.lst [ov, .ref t1, .ref t2, .ref t3, .ref t4]) := upd_same
        generalize upd G4 l (.lst [ov, .ref t1, .ref t2, .ref t3, .ref t4]) = G5 at w5' el ⊢
        have w5 := w4.trans w5'
        simp only [gName, List.set_cons_zero, List.set_cons_succ]
        refine ⟨_, rfl, .inl ⟨rfl, _, SqL.of el⟩, by show 3 ≤ sizeLine; omega, fun t5 nt5 => ?_⟩
        have w6' := same_upd (o := .tup [.str ("zzzzzzzz" : Str), .str ("qqqqqqqq" : Str), .int 0]) nt5
        have q5 : (upd G5 t5 (.tup [.str ("zzzzzzzz" : Str), .str ("qqqqqqqq" : Str), .int 0])) t5 = some (.tup [.str ("zzzzzzzz" : Str), .str ("qqqqqqqq" : Str), .int 0]) := upd_same
        have el6 := w6' _ _ el
        generalize upd G5 t5 (.tup [.str ("zzzzzzzz" : Str), .str ("qqqqqqqq" : Str), .int 0]) = G6 at w6' q5 el6 ⊢
        have w6 := w5.trans w6'
        refine ⟨l, _, _, rfl, rfl, el6, by show 5 < sizeLine; omega, ?_⟩
        have lH : ∀ a o, H1 a = some o → a ≠ l := fun a o e => ne_of_none (w4 _ _ e) nl
        have tl : ∀ {a : Addr} {vs : List V}, G6 a = some (.tup vs) → a ≠ l := fun {a vs} e z => by
          rw [z, el6] at e
          cases e
        have lb : l ≠ b := by
          obtain ⟨_, _, _, _, BI⟩ := Bc1
          exact (lH _ _ BI.at_).symm
        have lc0 : l ≠ c0 := by
          obtain ⟨_, _, _, _, BI⟩ := Bc1
          exact (lH _ _ BI.cells).symm
        have Bc7 : BagAt (upd G6 l (.lst ([ov, .ref t1, .ref t2, .ref t3, .ref t4] ++ [.ref t5]))) b c0 := (Bc1.same w6).put lb lc0
        have k7 : Keep b H1 (upd G6 l (.lst ([ov, .ref t1, .ref t2, .ref t3, .ref t4] ++ [.ref t5]))) := fun a o na e => by
          rw [upd_ne (lH a o e)]
          exact w6 _ _ e
        have tk : ∀ {a : Addr} {vs : List V}, G6 a = some (.tup vs) → (upd G6 l (.lst ([ov, .ref t1, .ref t2, .ref t3, .ref t4] ++ [.ref t5]))) a = some (.tup vs) := fun {a vs} e => by
          rw [upd_ne (tl e)]
          exact e
        have r1 := tk (w6' _ _ (w5' _ _ (w4' _ _ (w3' _ _ (w2' _ _ q1)))))
        have r2 := tk (w6' _ _ (w5' _ _ (w4' _ _ (w3' _ _ q2))))
        have r3 := tk (w6' _ _ (w5' _ _ (w4' _ _ q3)))
        have r4 := tk (w6' _ _ (w5' _ _ q4))
        have r5 := tk q5
        have el7 : (upd G6 l (.lst ([ov, .ref t1, .ref t2, .ref t3, .ref t4] ++ [.ref t5]))) l = some (.lst [ov, .ref t1, .ref t2, .ref t3, .ref t4, .ref t5]) := upd_same
        have tbag : ∀ {a : Addr} {vs : List V}, (upd G6 l (.lst ([ov, .ref t1, .ref t2, .ref t3, .ref t4] ++ [.ref t5]))) a = some (.tup vs) → a ≠ b := fun {a vs} e z => bag_nt Bc7.bag _ (by rw [← z]; exact e)
        generalize upd G6 l (.lst ([ov, .ref t1, .ref t2, .ref t3, .ref t4] ++ [.ref t5])) = G7 at Bc7 k7 r1 r2 r3 r4 r5 el7 tbag ⊢
        have eh7 := k7 _ _ hb' eh1
        have ec7 := k7 _ _ cb ec1
        refine ⟨_, rfl, h, _, 1, _, rfl, rfl, SqL.of eh7, rfl, .inl ⟨rfl, _, SqL.of ec7⟩, _, rfl, _, rfl, h, _, 1, _, rfl, rfl, SqL.of eh7, rfl, f2, _, rfl, .inl (SqL.of ec7), _, _, rfl, rfl, b, _, rfl, Bc7.bag, by omega, by omega, fun i G8 hi B8 k8 g8 => ?_⟩
        refine ⟨_, rfl, _, rfl, b, 6, rfl, B8, by decide, by decide, fun j G9 hj B9 k9 g9 => ?_⟩
        have k79 := k8.trans k9
        have Bc9 := g9 _ (g8 _ Bc7)
        have ec9 := k79 _ _ cb ec7
        have eh9 := k79 _ _ hb' eh7
        have k19 := k7.trans k79
        have offh : ∀ {a : Addr} {vs : List V}, G9 a = some (.tup vs) → Dq G9 b (.ref a) = Dq G9 b (.ref a) → del (del G9 h) f2 a = some (.tup vs) := fun {a vs} e _ => by
          have n1 : a ≠ f2 := fun z => by
            rw [z, ec9] at e
            cases e
          have n2 : a ≠ h := fun z => by
            rw [z, eh9] at e
            cases e
          rw [del_ne n1, del_ne n2]
          exact e
        have hx9 : DqAll (del (del G9 h) f2) b xs ds := hx.mono (del_keep (del_keep (k1.trans k19)))
        have put : ∀ {v : V} {d : PyData} {y4 : Option V} {m : Nat}, Dq (del (del G9 h) f2) b v d → Shd 4 1200 d → MoreJ b n h c0 (z0 :: zt) ov od [some (.ref b), some (.ref n), some (.ref h), some ov, y4] (upd G9 f2 (.lst (xs.take m ++ [v] ++ xs.drop m))) := fun {v d y4 m} hv sv => by
          have up : ∀ a o, a ≠ b → del (del G9 h) f2 a = some o → del (upd G9 f2 (.lst (xs.take m ++ [v] ++ xs.drop m))) h a = some o := fun a o _ e => del3 a o e
          have l6 : (ds.take m ++ [d] ++ ds.drop m).length ≤ 6 := by
            rw [List.length_append, List.length_append, List.length_take, List.length_drop]
            show _ + 1 + _ ≤ _
            omega
          refine ⟨y4, v0, .ref f2, d0, .list (ds.take m ++ [d] ++ ds.drop m), rfl, Bc9.put cb c0c.symm, by rw [upd_ne nc]; exact k19 _ _ nb hn1, by rw [upd_ne ch.symm]; exact eh9, s0, l0, ?_, l6, ?_, ?_, ?_⟩
          · refine ⟨⟨by show _ ≤ 24; omega, okMs_of fun e he => ?_⟩, ?_⟩
            · rcases mem_ins he with rfl | he
              · exact sv.m
              · exact okMs.mem s1.m.2 e he
            · refine Rp.mono (RpS.lst (n := 4) (S := 21300) ?_) (by decide) (by decide)
              exact insS sv.rp s1.rp
          · exact (h0.mono (del_keep (del_keep (k1.trans k19)))).mono up
          · exact .lst (by rw [del_ne ch]; exact upd_same) cb cm ((((hx9.take m).app (.cons hv .nil)).app (hx9.drop m)).mono up)
          · exact (hO2 k19).mono up
        have hj : j < 6 := by omega
        have tupP : ∀ {t : Addr} {x y : Str} {z : Int}, G7 t = some (.tup [.str x, .str y, .int z]) → Dq (del (del G9 h) f2) b (.ref t) (.tuple [.str x, .str y, .int z]) := fun {t x y z} e => tup0 (offh (k79 _ _ (tbag e) e) rfl) (tbag e)
        have fine : ∀ {x y : Str} {z : Int}, ShS x → ShS y → -(10 ^ 41) ≤ z → z ≤ 10 ^ 41 → Shd 4 1200 (.tuple [.str x, .str y, .int z]) := fun hx hy h1 h2 => (shd_fact hx hy h1 h2).mono (by decide) (by decide)
        have zz : ShS ("zzzzzzzz" : Str) := sh_lit (by decide +kernel)
        have qq : ShS ("qqqqqqqq" : Str) := sh_lit (by decide +kernel)
        have ee : ShS ("" : Str) := sh_lit (by decide +kernel)
        have el9 := k79 _ _ lb el7
        obtain ⟨v, d, hv, dv, sv⟩ : ∃ (v : V) (d : PyData), ([ov, .ref t1, .ref t2, .ref t3, .ref t4, .ref t5] : List V)[j]? = some v ∧ Dq (del (del G9 h) f2) b v d ∧ Shd 4 1200 d := by
          match j, hj with
          | 0, _ => exact ⟨_, _, rfl, hO2 k19, og.shd.mono (by decide) (by decide)⟩
          | 1, _ => exact ⟨_, _, rfl, tupP r1, fine zz hz0.sh (by decide) (by decide)⟩
          | 2, _ => exact ⟨_, _, rfl, tupP r2, fine hz0.sh hz0.sh (by decide) (by decide)⟩
          | 3, _ => exact ⟨_, _, rfl, tupP r3, fine ee qq (by decide) (by decide)⟩
          | 4, _ => exact ⟨_, _, rfl, tupP r4, fine ee ee (by decide) (by decide)⟩
          | 5, _ => exact ⟨_, _, rfl, tupP r5, fine zz qq (by decide) (by decide)⟩
        exact ⟨l, _, j, v, rfl, rfl, SqL.of el9, atI_nat hv, f2, xs, i, v, rfl, rfl, ec9, by omega, by omega, by omega, k _ _ (put dv sv)⟩
      · rw [hl]
        refine iteF (k _ _ ⟨_, v0, v1, d0, d1, rfl, Bc1, hn1, eh1, s0, l0, s1.mono (Nat.le_refl _) (by decide), by omega, h0.mono (del_keep k1), h1.mono (del_keep k1), hOh Keep.refl⟩)
end
end Fv


set_option Elab.async false
set_option linter.all false
set_option maxRecDepth 100000
set_option maxHeartbeats 4000000
namespace Fv
open PySem PySem.Spec PyProof.Rows L2
/-! ### the law -/
abbrev sLaw : Stmt := top 41
abbrev nLw : List Str := ["_law_script", "_law_bag_here", "_law_turn", "_law_names_here", "_law_handed", "_law_looked", "_law_due_here", "_law_again", "_law_one", "_law_many"]
def spLaw (K : PySem.W.Frag) : Sp := fun vs H Q _ => ∃ (a : Addr) (ns : List Int), vs = [.ref a] ∧ SqL K H a (ns.map V.int) ∧ ns.length ≤ 63 ∧ ∀ H', Q (.bl true) H'
theorem Hand.keep {H H' : Hp} {b h : Addr} {A : Addr → Prop} (x : Hand H b A h) (k : Keep b H H') : Hand H' b A h := by
  obtain ⟨v0, v1, d0, d1, e, hb, hm, ha, s0, l0, s1, l1, r⟩ := x
  refine ⟨v0, v1, d0, d1, k _ _ hb e, hb, hm, ha, s0, l0, s1, l1, ?_⟩
  rcases r with ⟨c, xs, ds, rfl, rfl, cb, ch, cm, ac, ec, hx, h0⟩ | ⟨hl, h1, h0⟩
  · exact .inl ⟨c, xs, ds, rfl, rfl, cb, ch, cm, ac, k _ _ cb ec, hx.mono (del_keep (del_keep k)), h0.mono (del_keep (del_keep k))⟩
  · exact .inr ⟨hl, h1.mono (del_keep k), h0.mono (del_keep k)⟩
section
variable {P : Program} {w : World} {K : PySem.W.Frag} {mg : Str → Option Value} {base : Heap} {C ad : Addr} {oe : Obj}
theorem scLw : FnScope nLw ["_law_script"] (defScope sLaw) := ⟨rfl, rfl, rfl, by decide +kernel, rfl, by decide +kernel, by decide +kernel⟩
theorem ok_law {f fB fT fN fF fb fm fD fA fo iF fn : Addr} {fd fdB fdT fdN fdF fdb fdm fdD fdA fdo fdI fdn : FuncData} (F : Fun K "law" "law" sLaw f fd) (T : FacC K C)
    (GB : FnOk P w K mg base CX0 1 fB fdB ["_law_script"] (spBag K)) (bB : Binds K fdB ["_law_script"] []) (mB : mg "_law_bag" = some (.ref fB)) (kB : PySem.W.keepIn K (.ref fB) = true)
    (GT : FnOk P w K mg base CX0 1 fT fdT ["_law_bag_here", "_law_many"] spTake) (bT : Binds K fdT ["_law_bag_here", "_law_many"] []) (mT : mg "_law_take" = some (.ref fT)) (kT : PySem.W.keepIn K (.ref fT) = true)
    (GN : FnOk P w K mg base CX0 3 fN fdN ["_law_bag_here", "_law_many"] spNames) (bN : Binds K fdN ["_law_bag_here", "_law_many"] []) (mN : mg "_law_names" = some (.ref fN)) (kN : PySem.W.keepIn K (.ref fN) = true)
    (GF : FnOk P w K mg base CX0 3 fF fdF ["_law_bag_here", "_law_names_here"] spLFacts) (bF : Binds K fdF ["_law_bag_here", "_law_names_here"] []) (mF : mg "_law_facts" = some (.ref fF)) (kF : PySem.W.keepIn K (.ref fF) = true)
    (Gb : FnOk P w K mg base CX0 3 fb fdb ["_law_bag_here", "_law_names_here", "_law_facts_here"] spBent) (bb : Binds K fdb ["_law_bag_here", "_law_names_here", "_law_facts_here"] []) (mb : mg "_law_bent" = some (.ref fb)) (kb : PySem.W.keepIn K (.ref fb) = true)
    (Gm : FnOk P w K mg base CX0 3 fm fdm ["_law_bag_here", "_law_names_here", "_law_handed"] spMoreB) (bm : Binds K fdm ["_law_bag_here", "_law_names_here", "_law_handed"] []) (mm : mg "_law_more_bent" = some (.ref fm)) (km : PySem.W.keepIn K (.ref fm) = true)
    (GD : FnOk P w K mg base CX0 3 fD fdD ["_law_names_here", "_law_facts_here"] (spDue C)) (bD : Binds K fdD ["_law_names_here", "_law_facts_here"] []) (mD : mg "_law_due" = some (.ref fD)) (kD : PySem.W.keepIn K (.ref fD) = true)
    (GA : FnG P w K mg base 1 fA fdA ["_law_found", "_law_due_here"] spAlike) (bA : BindG fdA ["_law_found", "_law_due_here"]) (mA : mg "_law_alike" = some (.ref fA)) (kA : PySem.W.keepIn K (.ref fA) = true)
    (Go : FnOk P w K mg base CX0 7 fo fdo ["_law_names_here", "_law_facts_here"] (spTold C)) (bo : Binds K fdo ["_law_names_here", "_law_facts_here"] []) (mo : mg "_law_told" = some (.ref fo)) (ko : PySem.W.keepIn K (.ref fo) = true)
    (MK : Mk K C iF) (GI : FnOk P w K mg base CX0 3 iF fdI ["self", "names", "facts"] (spIni0 K C)) (bI : Binds K fdI ["self", "names", "facts"] [.ref ad]) (gC : mg "Facts" = some (.ref C)) (lk : K.lookup ad = some oe) (ct : oe.cls = .type "tuple") (ht : ∀ H, SqT K H ad [])
    (Mn : Meth K C "names" fn) (Gn : FnOk P w K mg base CX0 1 fn fdn ["self"] (spNm0 C)) (bn : Binds K fdn ["self"] [])
    (mr : mg "range" = none) (mp : mg "repr" = none) : FnG P w K mg base 8 f fd ["_law_script"] (spLaw K) := by
  refine okG F scLw (fun vs H Q E h => ?_) (fun cdv A outer s H vs Q E hg hr h => ?_)
  · obtain ⟨a, ns, rfl, _⟩ := h
    rfl
  · obtain ⟨a, ns, rfl, hS, hl, q⟩ := h
    have hr1 : Room 1 _ := hr.mono (by decide)
    have hr3 : Room 3 _ := hr.mono (by decide)
    have hr4 : Room 4 _ := hr.mono (by decide)
    have hu := hu_of hr
    refine ⟨_, pss_cons (ps_set (i := 1) scLw.nd rfl (.inl rfl) (pe_call GB hr1 (by rfl) mB kB bB .nil pass0 (pa_cons (pv 0) pa_nil)))
      (pss_cons (ps_for PassesOwn.never rfl (pi_range1 (by rfl) mr (pa_cons pe_int pa_nil)) (pg_name (i := 2) scLw.nd rfl (.inl rfl))
        (pss_cons (ps_set (i := 3) scLw.nd rfl (.inl rfl) (pe_call GN hr3 (by rfl) mN kN bN .nil pass0 (pa_cons (pv 1) (pa_cons (pe_op op_add pe_int (pe_call GT hr1 (by rfl) mT kT bT .nil pass0 (pa_cons (pv 1) (pa_cons pe_int pa_nil)))) pa_nil))))
        (pss_cons (ps_set (i := 4) scLw.nd rfl (.inl rfl) (pe_call Gb hr3 (by rfl) mb kb bb .nil pass0 (pa_cons (pv 1) (pa_cons (pv 3) (pa_cons (pe_call GF hr3 (by rfl) mF kF bF .nil pass0 (pa_cons (pv 1) (pa_cons (pv 3) pa_nil))) pa_nil)))))
        (pss_cons (ps_if (pt_cmpR op_eq (pe_call GT hr1 (by rfl) mT kT bT .nil pass0 (pa_cons (pv 1) (pa_cons pe_int pa_nil))) pe_int (nomark _)) (pss_one (ps_set (i := 4) scLw.nd rfl (.inl rfl) (pe_call Gm hr3 (by rfl) mm km bm .nil pass0 (pa_cons (pv 1) (pa_cons (pv 3) (pa_cons (pv 4) pa_nil)))))) pss_nil)
        (pss_cons (ps_par (i := 5) (j := 6) (by rfl) scLw.nd rfl rfl (by decide) rfl rfl (pa_cons (pe_callB (call_reprD hg hr.units) (by rfl) mp (by decide +kernel) (pa_cons (pv 4) pa_nil)) (pa_cons (pe_call GD hr3 (by rfl) mD kD bD .nil pass0 (pa_cons (pe_ix ix_list (pv 4) pe_int (fun _ _ => rfl)) (pa_cons (pe_ix ix_list (pv 4) pe_int (fun _ _ => rfl)) pa_nil))) pa_nil)) (by rfl))
        (pss_one (ps_for PassesOwn.never rfl (pi_range1 (by rfl) mr (pa_cons pe_int pa_nil)) (pg_name (i := 7) scLw.nd rfl (.inl rfl))
          (pss_one (ps_if (PW.pt (pw_or (pt_not (pt_val (pe_callG GA hg hr1 (by rfl) mA kA bA (pa_cons (pe_call Go hr (by rfl) mo ko bo .nil pass0 (pa_cons (pe_ix ix_list (pv 4) pe_int (fun _ _ => rfl)) (pa_cons (pe_ix ix_list (pv 4) pe_int (fun _ _ => rfl)) pa_nil))) (pa_cons (pv 6) pa_nil)))))
              (pw_or1 (pt_cmpR op_ne (pe_callB (call_reprD hg hr.units) (by rfl) mp (by decide +kernel) (pa_cons (pv 4) pa_nil)) (pv 5) (nomark _))))) pss_dead pss_nil)))))))))
      (pss_cons (ps_par (i := 8) (j := 9) (by rfl) scLw.nd rfl rfl (by decide) rfl rfl (pa_cons (pe_make MK GI hr4 (by rfl) gC bI (dvs := [.ref ad]) (.cons rfl .nil) pass0 (pa_cons (pe_lst (pa_cons pe_str pa_nil)) pa_nil)) (pa_cons (pe_op op_rep (pe_lst (pa_cons pe_non pa_nil)) pe_int) pa_nil)) (by rfl))
      (pss_cons (ps_if (PW.pt (pw_or (pt_cmpR (op_neD hr.units) (pe_call Go hr (by rfl) mo ko bo .nil pass0 (pa_cons (pv 8) (pa_cons (pe_lst pa_nil) pa_nil))) (pe_tup (pa_cons pe_str (pa_cons pe_int pa_nil))) (nomark _))
          (pw_or1 (pt_cmpR (op_neD hr.units) (pe_call Go hr (by rfl) mo ko bo .nil pass0 (pa_cons (pe_lst (pa_cons pe_str pa_nil)) (pa_cons (pv 8) pa_nil))) (pe_tup (pa_cons pe_str (pa_cons pe_int pa_nil))) (nomark _))))) pss_dead pss_nil)
      (pss_cons (ps_if (PW.pt (pw_or (pt_cmpR (op_neD hr.units) (pe_call Go hr (by rfl) mo ko bo .nil pass0 (pa_cons (pv 9) (pa_cons (pe_lst pa_nil) pa_nil))) (pe_tup (pa_cons pe_str (pa_cons pe_int pa_nil))) (nomark _))
          (pw_or1 (pt_cmpR (op_neD hr.units) (pe_call Go hr (by rfl) mo ko bo .nil pass0 (pa_cons (pe_lst (pa_cons pe_str pa_nil)) (pa_cons (pv 9) pa_nil))) (pe_tup (pa_cons pe_str (pa_cons pe_int pa_nil))) (nomark _))))) pss_dead pss_nil)
      (pss_one (ps_ret (pe_and (pe_cmpR (op_eqNil hr.units) (pe_meth0 (pe_make MK GI hr4 (by rfl) gC bI (dvs := [.ref ad]) (.cons rfl .nil) pass0 (pa_cons (pe_lst pa_nil) pa_nil)) T.cl Mn Gn hr1 bn .nil pass0) (pe_lst pa_nil) (nomark _))
        (pe_one (pe_callG GA hg hr1 (by rfl) mA kA bA (pa_cons (pe_call Go hr (by rfl) mo ko bo .nil pass0 (pa_cons (pe_lst pa_nil) (pa_cons (pe_lst (pa_cons (pe_tup (pa_cons pe_str (pa_cons pe_str (pa_cons (pe_un un_neg pe_int) pa_nil)))) pa_nil)) pa_nil))) (pa_cons (pe_tup (pa_cons pe_str (pa_cons pe_int pa_nil))) pa_nil))))))))))), ?_⟩
    rw [show L2.start nLw [V.ref a] = [some (.ref a), none, none, none, none, none, none, none, none, none] from rfl]
    refine ⟨_, rfl, a, ns, rfl, hS, hl, fun b H1 B1 s1 => ?_⟩
    simp only [gName, List.set_cons_zero, List.set_cons_succ]
    refine ⟨6, rfl, by decide, by decide, ?_⟩
    refine for_range (lo := 0) (n := (6 : Int).toNat) (fun i σ H' => ∃ y2 y3 y4 y5 y6 y7 y8 y9 : Option V, σ = [some (.ref a), some (.ref b), y2, y3, y4, y5, y6, y7, y8, y9] ∧ Bag H' b)
      ⟨_, _, _, _, _, _, _, _, rfl, B1⟩ ?_ ?_
    · rintro i1 σ G0 hi ⟨y2, y3, y4, y5, y6, y7, y8, y9, rfl, BG⟩
      simp only [gName, List.set_cons_zero, List.set_cons_succ]
      refine ⟨_, rfl, _, rfl, b, 4, rfl, BG, by decide, by decide, fun tk G1 h1 BG1 k1 g1 => ?_⟩
      refine ⟨_, _, rfl, rfl, b, 1 + tk, by rw [Int.natCast_add]; rfl, BG1, by omega, fun n zs G2 en zl nb nm hz nd zq BG2 k2 g2 => ?_⟩
      simp only [gName, List.set_cons_zero, List.set_cons_succ]
      refine ⟨_, rfl, _, rfl, _, rfl, _, rfl, b, n, zs, rfl, BG2, en, nb, by omega, hz, nd, fun pf xs L pot G3 npf epf hI ll hsrc hfb K0 pfb BG3 k3 g3 => ?_⟩
      refine ⟨b, n, pf, zs, xs, L, rfl, BG3, k3 _ _ nb en, nb, nm, epf, pfb, hI, by omega, by omega, hz, nd, ll, hsrc, hfb, fun h G4 nh hand BG4 k4 g4 => ?_⟩
      have en4 := k4 _ _ nb (k3 _ _ nb en)
      simp only [gName, List.set_cons_zero, List.set_cons_succ]
      refine cutK (fun σ' H' => σ' = [some (.ref a), some (.ref b), some (.int (0 + ↑i1)), some (.ref n), some (.ref h), y5, y6, y7, y8, y9] ∧ Hand2 H' b h ∧ Bag H' b) ?_ (fun k => ?_)
      · rintro σ' G6 ⟨rfl, ⟨v0, v1, d0, d1, eh, hb', hm', s0, l0, s1', l1, q0, q1⟩, BG6⟩
        have q0' : Dq G6 b v0 d0 := q0.mono fun c o _ e => del_sub _ _ e
        have q1' : Dq G6 b v1 d1 := q1.mono fun c o _ e => del_sub _ _ e
        have rp : Rp 6 (2000 + 2 + (24000 + 2 + 0) + 3) (.list [d0, d1]) := (RpS.cons (s0.rp.mono (by decide) (Nat.le_refl _)) (RpS.cons (s1'.rp.mono (by decide) (Nat.le_refl _)) RpS.nil)).lst
        have qh : Dq G6 b (.ref h) (.list [d0, d1]) := .lst eh hb' hm' (.cons q0' (.cons q1' .nil))
        have sl : (PyData.list [d0, d1]).shown.length ≤ sizeLine := Nat.le_trans (sz_le _) (Nat.le_trans rp.len (by decide))
        have dp : (PyData.list [d0, d1]).depth ≤ 20 := Nat.le_trans rp.dp (by decide)
        obtain ⟨zs', L', hAt, hz', nd', zl', ll', hf'⟩ := two_of_data (C := C) q0'.x q1'.x (by omega) (by omega)
        have hV : [namesD d0, factsD d1].all id = true → (∃ n a xs, v0 = .ref n ∧ v1 = .ref a ∧ RowAt G6 n (zs'.map V.str) ∧ RowAt G6 a xs ∧ Its G6 xs L') ∧ (∀ z ∈ zs', NmOk z) ∧ zs'.Nodup ∧ zs'.length ≤ 6 ∧ L'.length ≤ 60 := fun h => ⟨hAt h, hz', nd', zl', ll'⟩
        refine ⟨_, rfl, b, .ref h, _, rfl, qh, rp.sh, sl, dp, ?_⟩
        refine ⟨_, rfl, h, _, 0, _, rfl, rfl, SqL.of eh, rfl, _, rfl, h, _, 1, _, rfl, rfl, SqL.of eh, rfl, b, v0, v1, d0, d1, zs', L', rfl, BG6.at_b, q0'.x, s0.m.ok, q1'.x, s1'.m.ok, hV, fun G7 t o s7 ho ht => ⟨_, _, rfl, ?_⟩⟩
        simp only [gName, List.set_cons_zero, List.set_cons_succ]
        have fl := ho.flat hz' zl' fun f hf => fact_sh (hf' f hf)
        refine ⟨2, rfl, by decide, by decide, ?_⟩
        refine for_range (lo := 0) (n := (2 : Int).toNat) (fun i σ H' => ∃ y7 : Option V, σ = [some (.ref a), some (.ref b), some (.int (0 + ↑i1)), some (.ref n), some (.ref h), some (.str (PyData.list [d0, d1]).shown), some (.ref t), y7, y8, y9] ∧ Same G7 H')
          ⟨_, rfl, fun _ _ e => e⟩ ?_ ?_
        · rintro i2 σ G8 hi2 ⟨y7', rfl, s8⟩
          simp only [gName, List.set_cons_zero, List.set_cons_succ]
          have s68 := s7.trans s8
          have eh8 := s68 _ _ eh
          have m8 : ∀ {v : V} {d : PyData}, Dq G6 b v d → Dq G8 b v d := fun x => x.mono fun c o _ e => s68 c o e
          have hV8 : [namesD d0, factsD d1].all id = true → (∃ n a xs, v0 = .ref n ∧ v1 = .ref a ∧ RowAt G8 n (zs'.map V.str) ∧ RowAt G8 a xs ∧ Its G8 xs L') ∧ (∀ z ∈ zs', NmOk z) ∧ zs'.Nodup ∧ zs'.length ≤ 6 ∧ L'.length ≤ 60 := fun h => by
            obtain ⟨⟨n, a, xs, e1, e2, r1, r2, r3⟩, r⟩ := hV h
            exact ⟨⟨n, a, xs, e1, e2, r1.same s68, r2.same s68, r3.same s68⟩, r⟩
          refine ⟨_, rfl, h, _, 0, _, rfl, rfl, SqL.of eh8, rfl, _, rfl, h, _, 1, _, rfl, rfl, SqL.of eh8, rfl, b, v0, v1, namesD d0, factsD d1, zs', L', rfl, (BG6.same s68).at_b, .inl ⟨d0, (m8 q0').x, s0.m.ok, rfl⟩, .inl ⟨d1, (m8 q1').x, s1'.m.ok, rfl⟩, hV8, fun G9 t2 o2 s9 ho2 hq2 => ?_⟩
          obtain rfl := ho2.uniq ho
          have s89 := s8.trans s9
          refine ⟨_, rfl, b, .ref t2, .ref t, o2, rfl, hq2, ht.mono fun c o _ e => s89 c o e, fl, ?_⟩
          have qh9 : Dq G9 b (.ref h) (.list [d0, d1]) := qh.mono fun c o _ e => s9 _ _ (s68 c o e)
          refine ⟨_, rfl, iteF ⟨_, rfl, b, .ref h, _, rfl, qh9, rp.sh, sl, dp, _, rfl, rfl, _, rfl, ?_⟩⟩
          refine ite2 (fun e => ?_) (fun e => ?_)
          · simp at e
          · exact ⟨_, rfl, s89⟩
        · rintro σ G8 ⟨y7', rfl, s8⟩
          exact ⟨_, _, _, _, _, _, _, _, rfl, BG6.same (s7.trans s8)⟩
      · refine ⟨_, rfl, b, 2, rfl, BG4, by decide, by decide, fun tk2 G5 h5 BG5 k5 g5 => ⟨rfl, _, rfl, ite2 (fun e => ?_) (fun e => ?_)⟩⟩
        · refine ⟨_, rfl, _, rfl, _, rfl, b, n, h, zs, _, rfl, BG5, k5 _ _ nb en4, nb, by omega, hz, hand.keep k5, .inl rfl, (fun c hc => by
            obtain ⟨c1, hc1⟩ : ∃ c, BagAt G3 b c := BG3
            rw [BagAt.uniq (g5 _ (g4 _ hc1)) hc]
            exact .inr hc1), fun H' h2 B2 => ?_⟩
          simp only [gName, List.set_cons_zero, List.set_cons_succ]
          exact k _ _ ⟨rfl, h2, B2⟩
        · exact k _ _ ⟨rfl, (hand.keep k5).two, BG5⟩
    · rintro σ G ⟨y2, y3, y4, y5, y6, y7, y8, y9, rfl, BG⟩
      have one1 : 1 ≤ sizeLine := by decide
      refine ⟨by show 1 ≤ sizeLine; decide, fun l nl => ?_⟩
      have w1 := same_upd (o := .lst [.str "a"]) nl
      have el : (upd G l (.lst [.str "a"])) l = some (.lst [.str "a"]) := upd_same
      have BG1 := BG.same w1
      generalize upd G l (.lst [.str "a"]) = Ga at w1 el BG1 ⊢
      intro x dx nx ndx nxd
      have w2 : Same Ga (upd (upd Ga dx (.own x)) x (.ins C dx [])) := (same_upd ndx).trans (same_upd (by rw [upd_ne nxd.symm]; exact nx))
      have ex : (upd (upd Ga dx (.own x)) x (.ins C dx [])) x = some (.ins C dx []) := upd_same
      generalize upd (upd Ga dx (.own x)) x (.ins C dx []) = Gb2 at w2 ex ⊢
      refine ⟨x, l, ad, dx, oe, ["a"], rfl, ex, w2 _ _ el, ne_of_none el nx, lk, ct, ht, fun z hz => ?_, (by simp), by decide, fun Gm r r2 ys hxm hrm perm sX => ⟨rfl, ?_⟩⟩
      · rw [List.mem_singleton.mp hz]
        exact nm_of (by decide +kernel)
      have BGm : Bag Gm b := BG1.same fun c o e => sX c o (ne_of_none e nx) (w2 _ _ e)
      refine ⟨by show 1 ≤ sizeLine; decide, fun l0 nl0 => ⟨l0, 9000, [.non], rfl, rfl, upd_same, by decide, by decide, by show 1 * 9000 ≤ sizeLine; decide, fun r0 nr0 => ⟨_, _, rfl, ?_⟩⟩⟩
      rw [show (List.replicate (9000 : Int).toNat [V.non]).flatten = List.replicate 9000 V.non from List.flatten_replicate_singleton]
      have w3 := (same_upd (o := .lst [.non]) nl0).trans (same_upd (o := .lst (List.replicate 9000 V.non)) nr0)
      have er0 : (upd (upd Gm l0 (.lst [.non])) r0 (.lst (List.replicate 9000 V.non))) r0 = some (.lst (List.replicate 9000 V.non)) := upd_same
      have ex3 := w3 _ _ hxm
      have B3 := BGm.same w3
      generalize upd (upd Gm l0 (.lst [.non])) r0 (.lst (List.replicate 9000 V.non)) = G3 at w3 er0 ex3 B3 ⊢
      simp only [gName, List.set_cons_zero, List.set_cons_succ]
      have nms : ∀ z : Str, z ∉ ([] : List Str) := fun z h => by cases h
      have nfs : ∀ f : FaT, f ∉ ([] : List FaT) := fun z h => by cases h
      have xb3 : x ≠ b := by
        obtain ⟨_, e⟩ := BGm.at_b
        intro z
        obtain ⟨_, _, _, _, _, BI⟩ := BGm
        rw [z, BI.at_] at hxm
        cases hxm
      have r0b : r0 ≠ b := by
        obtain ⟨_, _, _, _, _, BI⟩ := BGm
        exact (ne_of_none ((same_upd (o := .lst [.non]) nl0) _ _ BI.at_) nr0).symm
      have nb_of : ∀ {G : Hp} {d : Addr}, Bag G b → G d = none → d ≠ b := fun {G d} B n => by
        obtain ⟨_, e⟩ := B.at_b
        exact (ne_of_none e n).symm
      have wr : ∀ m : Int, m = 0 ∨ m = 1 → Flat (.tuple [.str "wrong", .int m]) := fun m hm => by
        rcases hm with rfl | rfl
        · exact two_flat (sh_lit (by decide +kernel)) (int_rp (by decide +kernel)) (by decide) (by decide) rfl
        · exact two_flat (sh_lit (by decide +kernel)) (int_rp (by decide +kernel)) (by decide) (by decide) rfl
      have nl3 : ∀ {G : Hp}, Same G3 G → NoneL G (.ref r0) := fun {G} s => ⟨r0, 8999, rfl, s _ _ er0, by decide⟩
      -- told(one, [])
      refine ⟨_, rfl, Nat.zero_le _, fun l1 nl1 => ?_⟩
      have w4 := same_upd (o := .lst []) nl1
      refine ⟨b, .ref x, .ref l1, false, _, [], [], rfl, (B3.same w4).at_b, .inl ⟨.none, .obj (w4 _ _ ex3) xb3, True.intro, rfl⟩, .inl ⟨.list [], .lst upd_same (nb_of B3 nl1) .nil, ⟨by decide, True.intro⟩, rfl⟩, (fun h => by simp at h), fun G4 t1 o1 s4 ho hq => ?_⟩
      obtain rfl := ho.uniq (.inl ⟨rfl, rfl⟩)
      refine ⟨by show 2 ≤ sizeLine; decide, fun u1 nu1 => ⟨_, _, (hq.mono fun c o _ e => (same_upd nu1) _ _ e).dp (SeqAt.canLay_of_shaped (wr 0 (.inl rfl)).shape), .tup (SqT.of upd_same) (.cons (.str _) (.cons (.int _) .nil)), (wr 0 (.inl rfl)).shape, (wr 0 (.inl rfl)).shape, _, rfl, ?_⟩⟩
      rw [SeqAt.eqv_refl _ (SeqAt.canLay_of_shaped (wr 0 (.inl rfl)).shape)]
      refine iteF ?_
      have s5 := (w4.trans s4).trans (same_upd (o := .tup [.str ("wrong" : Str), .int 0]) nu1)
      generalize upd G4 u1 (.tup [.str ("wrong" : Str), .int 0]) = G5 at s5 ⊢
      -- told(["a"], one)
      have B5 := B3.same s5
      refine ⟨by show 1 ≤ sizeLine; decide, fun l2 nl2 => ⟨_, rfl, ?_⟩⟩
      have w6 := same_upd (o := .lst [.str ("a" : Str)]) nl2
      refine ⟨b, .ref l2, .ref x, true, false, [], [], rfl, (B5.same w6).at_b, .inl ⟨.list [.str "a"], .lst upd_same (nb_of B5 nl2) (.cons (.str _) .nil), ⟨by decide, ⟨by decide +kernel, by decide +kernel⟩, True.intro⟩, by decide +kernel⟩, .inl ⟨.none, .obj (w6 _ _ (s5 _ _ ex3)) xb3, True.intro, rfl⟩, (fun h => by simp at h), fun G6 t1 o1 s6 ho hq => ?_⟩
      obtain rfl := ho.uniq (.inr (.inl ⟨rfl, rfl, rfl⟩))
      refine ⟨by show 2 ≤ sizeLine; decide, fun u1 nu1 => ⟨_, _, (hq.mono fun c o _ e => (same_upd nu1) _ _ e).dp (SeqAt.canLay_of_shaped (wr 1 (.inr rfl)).shape), .tup (SqT.of upd_same) (.cons (.str _) (.cons (.int _) .nil)), (wr 1 (.inr rfl)).shape, (wr 1 (.inr rfl)).shape, _, rfl, ?_⟩⟩
      rw [SeqAt.eqv_refl _ (SeqAt.canLay_of_shaped (wr 1 (.inr rfl)).shape)]
      refine iteF ?_
      have s7 := s5.trans ((w6.trans s6).trans (same_upd (o := .tup [.str ("wrong" : Str), .int 1]) nu1))
      generalize upd G6 u1 (.tup [.str ("wrong" : Str), .int 1]) = G7 at s7 ⊢
      have B7 := B3.same s7
      -- told(many, [])
      refine ⟨_, rfl, Nat.zero_le _, fun l1 nl1 => ?_⟩
      have w8 := same_upd (o := .lst []) nl1
      refine ⟨b, .ref r0, .ref l1, false, _, [], [], rfl, (B7.same w8).at_b, .inr ⟨nl3 (s7.trans w8), rfl⟩, .inl ⟨.list [], .lst upd_same (nb_of B7 nl1) .nil, ⟨by decide, True.intro⟩, rfl⟩, (fun h => by simp at h), fun G8 t1 o1 s8 ho hq => ?_⟩
      obtain rfl := ho.uniq (.inl ⟨rfl, rfl⟩)
      refine ⟨by show 2 ≤ sizeLine; decide, fun u1 nu1 => ⟨_, _, (hq.mono fun c o _ e => (same_upd nu1) _ _ e).dp (SeqAt.canLay_of_shaped (wr 0 (.inl rfl)).shape), .tup (SqT.of upd_same) (.cons (.str _) (.cons (.int _) .nil)), (wr 0 (.inl rfl)).shape, (wr 0 (.inl rfl)).shape, _, rfl, ?_⟩⟩
      rw [SeqAt.eqv_refl _ (SeqAt.canLay_of_shaped (wr 0 (.inl rfl)).shape)]
      refine iteF ?_
      have s9 := s7.trans ((w8.trans s8).trans (same_upd (o := .tup [.str ("wrong" : Str), .int 0]) nu1))
      generalize upd G8 u1 (.tup [.str ("wrong" : Str), .int 0]) = G9 at s9 ⊢
      have B9 := B3.same s9
      -- told(["a"], many)
      refine ⟨by show 1 ≤ sizeLine; decide, fun l2 nl2 => ⟨_, rfl, ?_⟩⟩
      have w10 := same_upd (o := .lst [.str ("a" : Str)]) nl2
      refine ⟨b, .ref l2, .ref r0, true, false, [], [], rfl, (B9.same w10).at_b, .inl ⟨.list [.str "a"], .lst upd_same (nb_of B9 nl2) (.cons (.str _) .nil), ⟨by decide, ⟨by decide +kernel, by decide +kernel⟩, True.intro⟩, by decide +kernel⟩, .inr ⟨nl3 (s9.trans w10), rfl⟩, (fun h => by simp at h), fun G10 t1 o1 s10 ho hq => ?_⟩
      obtain rfl := ho.uniq (.inr (.inl ⟨rfl, rfl, rfl⟩))
      refine ⟨by show 2 ≤ sizeLine; decide, fun u1 nu1 => ⟨_, _, (hq.mono fun c o _ e => (same_upd nu1) _ _ e).dp (SeqAt.canLay_of_shaped (wr 1 (.inr rfl)).shape), .tup (SqT.of upd_same) (.cons (.str _) (.cons (.int _) .nil)), (wr 1 (.inr rfl)).shape, (wr 1 (.inr rfl)).shape, _, rfl, ?_⟩⟩
      rw [SeqAt.eqv_refl _ (SeqAt.canLay_of_shaped (wr 1 (.inr rfl)).shape)]
      refine iteF ?_
      have s11 := s9.trans ((w10.trans s10).trans (same_upd (o := .tup [.str ("wrong" : Str), .int 1]) nu1))
      generalize upd G10 u1 (.tup [.str ("wrong" : Str), .int 1]) = G11 at s11 ⊢
      have B11 := B3.same s11
      -- Facts([]).names()
      refine ⟨Nat.zero_le _, fun l3 nl3 => ?_⟩
      have w12 := same_upd (o := .lst []) nl3
      have el3 : (upd G11 l3 (.lst [])) l3 = some (.lst []) := upd_same
      have B12 := B11.same w12
      generalize upd G11 l3 (.lst []) = G12 at w12 el3 B12 ⊢
      intro x2 dx2 nx2 ndx2 nxd2
      have w13 : Same G12 (upd (upd G12 dx2 (.own x2)) x2 (.ins C dx2 [])) := (same_upd ndx2).trans (same_upd (by rw [upd_ne nxd2.symm]; exact nx2))
      have ex2 : (upd (upd G12 dx2 (.own x2)) x2 (.ins C dx2 [])) x2 = some (.ins C dx2 []) := upd_same
      generalize upd (upd G12 dx2 (.own x2)) x2 (.ins C dx2 []) = G13 at w13 ex2 ⊢
      refine ⟨x2, l3, ad, dx2, oe, [], rfl, ex2, w13 _ _ el3, ne_of_none el3 nx2, lk, ct, ht, (fun z hz => by cases hz), List.nodup_nil, by decide, fun G14 r r2 ys hx14 hr14 perm sX => ⟨rfl, ?_⟩⟩
      obtain rfl := List.Perm.eq_nil perm
      have B14 : Bag G14 b := B12.same fun c o e => sX c o (ne_of_none e nx2) (w13 _ _ e)
      refine ⟨x2, dx2, _, rfl, hx14, rfl, x2, dx2, r, r2, [], rfl, hx14, hr14, fun p np mp => ?_⟩
      have w15 := same_upd (o := .lst []) np
      have ep : (upd G14 p (.lst [])) p = some (.lst []) := upd_same
      refine ⟨Nat.zero_le _, fun p2 np2 => ⟨p, p2, [], rfl, rfl, SqL.of ((same_upd np2) _ _ ep), SqL.of upd_same, _, rfl, iteT ?_⟩⟩
      have w16 := w15.trans (same_upd (o := .lst []) np2)
      have B16 := B14.same w16
      generalize hG16 : upd (upd G14 p (.lst [])) p2 (.lst []) = G16 at B16
      rw [show upd (upd G14 p (.lst (List.map V.str []))) p2 (.lst []) = G16 from hG16]
      clear hG16 w16 w15
      refine ⟨Nat.zero_le _, fun a1 na1 => ?_⟩
      have w17 := same_upd (o := .lst []) na1
      have ea1 : (upd G16 a1 (.lst [])) a1 = some (.lst []) := upd_same
      have B17 := B16.same w17
      have a1b := nb_of B16 na1
      generalize upd G16 a1 (.lst []) = G17 at B17 ea1 ⊢
      refine ⟨_, rfl, by show 3 ≤ sizeLine; decide, fun t nt => ?_⟩
      have w18 := same_upd (o := .tup [.str ("" : Str), .str ("" : Str), .int (-1)]) nt
      have et : (upd G17 t (.tup [.str ("" : Str), .str ("" : Str), .int (-1)])) t = some (.tup [.str ("" : Str), .str ("" : Str), .int (-1)]) := upd_same
      have ea2 := w18 _ _ ea1
      have B18 := B17.same w18
      have tb := nb_of B17 nt
      generalize upd G17 t (.tup [.str ("" : Str), .str ("" : Str), .int (-1)]) = G18 at B18 et ea2 ⊢
      refine ⟨by show 1 ≤ sizeLine; decide, fun l4 nl4 => ?_⟩
      have w19 := same_upd (o := .lst [.ref t]) nl4
      have el4 : (upd G18 l4 (.lst [.ref t])) l4 = some (.lst [.ref t]) := upd_same
      have ea3 := w19 _ _ ea2
      have et3 := w19 _ _ et
      have B19 := B18.same w19
      have l4b := nb_of B18 nl4
      generalize upd G18 l4 (.lst [.ref t]) = G19 at B19 el4 ea3 et3 ⊢
      have f1 : factsD (.list [.tuple [.str ("" : Str), .str ("" : Str), .int (-1)]]) = true := by decide +kernel
      have its1 : Its G19 [.ref t] [(("" : Str), ("" : Str), (-1 : Int))] := by
        have := Its.nil (H := G19)
        exact this.snoc et3
      refine ⟨b, .ref a1, .ref l4, true, true, [], [("", "", -1)], rfl, B19.at_b, .inl ⟨.list [], .lst ea3 a1b .nil, ⟨by decide, True.intro⟩, by decide +kernel⟩, .inl ⟨.list [.tuple [.str "", .str "", .int (-1)]], .lst el4 l4b (.cons (.tup et3 tb (.cons (.str _) (.cons (.str _) (.cons (.int _) .nil)))) .nil), ⟨by decide, ⟨by show 3 ≤ 60; decide, ⟨by decide +kernel, by decide +kernel⟩, ⟨by decide +kernel, by decide +kernel⟩, True.intro, True.intro⟩, True.intro⟩, f1.symm⟩,
        (fun _ => ⟨⟨a1, l4, _, rfl, rfl, .inl ea3, .inl el4, its1⟩, (fun z hz => by cases hz), List.nodup_nil, by decide, by decide⟩), fun G20 t1 o1 s20 ho hq => ?_⟩
      have hsrc : ∀ f ∈ [(("" : Str), ("" : Str), (-1 : Int))], SrcIn [] f.1 ∧ SrcIn [] f.2.1 := fun f hf => by
        rw [List.mem_singleton.mp hf]
        exact ⟨.inl rfl, .inl rfl⟩
      have nks : ¬ ∃ p, M.Keeps [(("" : Str), ("" : Str), (-1 : Int))] p := by
        rintro ⟨p, hp⟩
        have := hp "" "" (-1) List.mem_cons_self
        omega
      obtain rfl := ho.uniq (.inr (.inr (.inr (.inl ⟨rfl, rfl, hsrc, nks, rfl⟩))))
      refine ⟨by show 2 ≤ sizeLine; decide, fun u1 nu1 => ?_⟩
      have B20 := B19.same s20
      refine ⟨b, .ref t1, .ref u1, _, rfl, hq.mono fun c o _ e => (same_upd nu1) _ _ e, .tup upd_same (nb_of B20 nu1) (.cons (.str _) (.cons (.int _) .nil)), two_flat (sh_lit (by decide +kernel)) (int_rp (by decide +kernel)) (by decide) (by decide) rfl, ?_⟩
      exact q _
end
end Fv


set_option Elab.async false
set_option linter.all false
set_option maxRecDepth 100000
set_option maxHeartbeats 4000000
/-! the order of an own class's classes -/
namespace Fv
open PySem PySem.Spec PyProof.Rows L2
def Mro (K : PySem.W.Frag) (C : Addr) (m : List Value) : Prop := ∃ cd, PySem.W.clsIn K C = some cd ∧ cd.mro = m
theorem Mro.sub {K : PySem.W.Frag} {C : Addr} {a0 : Value} {l0 : List Value} (h : Mro K C (a0 :: l0)) (b : Value) : PySem.W.subIn K (.ref C) b = some ((a0 :: l0).contains b) := by
  obtain ⟨cd, e, em⟩ := h
  show (PySem.W.clsIn K C).bind _ = _
  rw [e, Option.bind_some, em]
  rfl
theorem Mro.kit {K : PySem.W.Frag} {C : Addr} {a0 : Value} {l0 : List Value} (h : Mro K C (a0 :: l0)) {T : String} (hm : PySem.W.kitMeta T = true) : PySem.W.kitOne K (.ref C) (.type T) = some ((a0 :: l0).contains (.type T)) := by
  unfold PySem.W.kitOne
  have n : ((Value.ref C : Value) == .type T) = false := by
    rw [beq_eq_false_iff_ne]
    exact nofun
  rw [n, if_neg (by decide)]
  unfold PySem.W.kitCls
  dsimp only
  rw [if_pos hm, h.sub]
theorem Mro.cls2 {K : PySem.W.Frag} {C D : Addr} {a0 : Value} {l0 m : List Value} (h : Mro K C (a0 :: l0)) (hD : Mro K D m) (ht : PySem.W.typeIn K (.ref D) = some (.type "type")) : PySem.W.kitCls K (.ref C) (.ref D) = some ((a0 :: l0).contains (.ref D)) := by
  unfold PySem.W.kitCls
  dsimp only
  have hi : (PySem.W.clsIn K D).isSome = true := by
    obtain ⟨cd, e, _⟩ := hD
    rw [e]
    rfl
  rw [if_pos (by rw [hi, ht] <;> rfl), h.sub]
theorem kit_self {K : PySem.W.Frag} {C : Addr} : PySem.W.kitOne K (.ref C) (.ref C) = some true := by
  unfold PySem.W.kitOne
  rw [beq_self_eq_true, if_pos rfl]
theorem Mro.exm {K : PySem.W.Frag} {C : Addr} {a0 : Value} {l0 : List Value} (h : Mro K C (a0 :: l0)) (hb : (a0 :: l0).contains (.type "BaseException") = true) (hs : (a0 :: l0).contains (.ref C) = true) (ht : PySem.W.typeIn K (.ref C) = some (.type "type")) : PySem.W.exmOne K (.ref C) (.ref C) = some true := by
  unfold PySem.W.exmOne
  rw [h.sub, hb, if_pos (by rfl)]
  unfold PySem.W.kitCls
  dsimp only
  have hi : (PySem.W.clsIn K C).isSome = true := by
    obtain ⟨cd, e, _⟩ := h
    rw [e]
    rfl
  rw [if_pos (by rw [hi, ht] <;> rfl), h.sub, hs]
end Fv


set_option Elab.async false
set_option linter.all false
set_option maxRecDepth 100000
set_option maxHeartbeats 4000000
namespace Fv
open PySem PySem.Spec PyProof.Rows L2
/-- what the written part says of the __init__ of an own error -/
structure IniF (K : PySem.W.Frag) (C f : Addr) (qual : Str) (st : Stmt) : Prop where
  ox : OexC K C
  fi : PySem.W.findIn K (.ref C) "__init__" = some (some (.ref f))
  tI : PySem.W.typeIn K (.ref f) = some (.type "function")
  fn : ∃ fd, Fun K "__init__" qual st f fd
def errM (C A : Addr) : List Value := [.ref C, .ref A, .type "ValueError", .type "Exception", .type "BaseException", .type "object"]
theorem err_no {C A D : Addr} (n1 : C ≠ D) (n2 : A ≠ D) : (errM C A).contains (.ref D) = false := by
  rw [← Bool.not_eq_true, List.contains_iff_mem]
  unfold errM
  simp only [List.mem_cons, List.not_mem_nil, or_false, Value.ref.injEq, reduceCtorEq]
  exact fun h => h.elim (fun e => n1 e.symm) fun e => n2 e.symm
theorem Mro.kit2 {K : PySem.W.Frag} {C A D : Addr} {m : List Value} (h : Mro K C (errM C A)) (hD : Mro K D m) (ht : PySem.W.typeIn K (.ref D) = some (.type "type")) (n1 : C ≠ D) (n2 : A ≠ D) : PySem.W.kitOne K (.ref C) (.ref D) = some false := by
  unfold PySem.W.kitOne
  have n : ((Value.ref C : Value) == .ref D) = false := by
    rw [beq_eq_false_iff_ne]
    exact fun e => n1 (Value.ref.inj e)
  rw [n, if_neg (by decide)]
  exact (h.cls2 hD ht).trans (congrArg some (err_no n1 n2))
theorem Mro.exm2 {K : PySem.W.Frag} {C A : Addr} {b0 : Value} {m : List Value} (h : Mro K C (errM C A)) (hA : Mro K A (b0 :: m)) (hb : (b0 :: m).contains (.type "BaseException") = true) (ht : PySem.W.typeIn K (.ref A) = some (.type "type")) : PySem.W.exmOne K (.ref C) (.ref A) = some true := by
  unfold PySem.W.exmOne
  rw [hA.sub, hb, if_pos (by rfl), h.cls2 hA ht]
  congr 1
  rw [List.contains_iff_mem]
  simp
theorem ini_bindsA {K : PySem.W.Frag} {T ad : Addr} {oT : Obj} {n : Nat} {kV dc pm cd ct : Value} {an : Option Addr} (lT : K.lookup T = some oT) (dT : oT.data = .seq #[.ref ad] n) :
    Binds K (PySem.W.fnOf "__init__" "Facts.__init__" (defArgs sInit) (defBody sInit) (defScope sInit) (.ref T) kV dc pm an cd ct) ["self", "names", "facts"] [] := by
  intro s us hK hl
  rw [List.append_nil] at hl ⊢
  match us, hl with
  | [a, b, c], _ =>
    exact BindsTo.of_looks fun M => looks_items hK lT dT (KwChain.looks (D := T) hK (l := []) (fun q hq => by cases hq) rfl)
theorem ini_binds {K : PySem.W.Frag} {T ad : Addr} {oT : Obj} {n : Nat} {kV dc pm cd ct : Value} {an : Option Addr} (lT : K.lookup T = some oT) (dT : oT.data = .seq #[.ref ad] n) :
    Binds K (PySem.W.fnOf "__init__" "Facts.__init__" (defArgs sInit) (defBody sInit) (defScope sInit) (.ref T) kV dc pm an cd ct) ["self", "names", "facts"] [.ref ad] := by
  intro s us hK hl
  have h2 : us.length = 2 := by
    rw [List.length_append] at hl
    have : us.length + 1 = 3 := hl
    omega
  match us, h2 with
  | [a, b], _ =>
    exact BindsTo.of_looks fun M => looks_items hK lT dT (KwChain.looks (D := T) hK (l := []) (fun q hq => by cases hq) rfl)
theorem all_mk {l : PySem.W.OpenLaw} {w : World} {K : PySem.W.Frag} {h : Heap} {mg : Str → Option Value} {fa : Addr} (X : K.In h) (G : h.Ns mainGlobals mg) (hfa : mg "law" = some (.ref fa))
    {f0 f1 f2 f3 f4 f5 f6 f7 f8 f9 f10 f11 f12 f13 f14 f15 f16 f17 f18 f19 f20 f21 f22 f23 f24 f25 f26 f27 mg0 C AE CW CN CS jW jN iF Tt ad : Addr} {oT oe : Obj} {oci kVi dci pmi cdi cti : Value} {odi ani : Option Addr} {sli : Array (Option Value)} {tL tN : Tok}
    {od0 an0 od1 an1 od2 an2 od3 an3 od4 an4 od5 an5 od6 an6 od7 an7 od8 an8 od9 an9 od10 an10 od11 an11 od12 an12 od13 an13 od14 an14 od15 an15 od16 an16 od17 an17 od18 an18 od19 an19 od20 an20 od21 an21 od22 an22 od23 an23 od24 an24 od25 an25 od26 an26 od27 an27 mpd0 mpn0 : Option Addr} {sl0 sl1 sl2 sl3 sl4 sl5 sl6 sl7 sl8 sl9 sl10 sl11 sl12 sl13 sl14 sl15 sl16 sl17 sl18 sl19 sl20 sl21 sl22 sl23 sl24 sl25 sl26 sl27 mps0 : Array (Option Value)} {oc0 kV0 dc0 pm0 cd0 ct0 oc1 kV1 dc1 pm1 cd1 ct1 oc2 kV2 dc2 pm2 cd2 ct2 oc3 kV3 dc3 pm3 cd3 ct3 oc4 kV4 dc4 pm4 cd4 ct4 oc5 kV5 dc5 pm5 cd5 ct5 oc6 kV6 dc6 pm6 cd6 ct6 oc7 kV7 dc7 pm7 cd7 ct7 oc8 kV8 dc8 pm8 cd8 ct8 oc9 kV9 dc9 pm9 cd9 ct9 oc10 kV10 dc10 pm10 cd10 ct10 oc11 kV11 dc11 pm11 cd11 ct11 oc12 kV12 dc12 pm12 cd12 ct12 oc13 kV13 dc13 pm13 cd13 ct13 oc14 kV14 dc14 pm14 cd14 ct14 oc15 kV15 dc15 pm15 cd15 ct15 oc16 kV16 dc16 pm16 cd16 ct16 oc17 kV17 dc17 pm17 cd17 ct17 oc18 kV18 dc18 pm18 cd18 ct18 oc19 kV19 dc19 pm19 cd19 ct19 oc20 kV20 dc20 pm20 cd20 ct20 oc21 kV21 dc21 pm21 cd21 ct21 oc22 kV22 dc22 pm22 cd22 ct22 oc23 kV23 dc23 pm23 cd23 ct23 oc24 kV24 dc24 pm24 cd24 ct24 oc25 kV25 dc25 pm25 cd25 ct25 oc26 kV26 dc26 pm26 cd26 ct26 oc27 kV27 dc27 pm27 cd27 ct27 mqc0 mqV0 mqd0 mqm0 mqe0 mqt0 : Value}
    (eF : PySem.W.nsIn K mainGlobals "Facts" = some (some (.ref C)))
    (tC : Cls K C)
    (tM : Mro K C [.ref C, .type "object"])
    (tH : PySem.W.findIn K (.ref C) "__class__" = some (some (.builtin "object.__class__")))
    (hn : PySem.W.specialIn K (.builtin "object.__class__") "__get__" = some (some (.builtin "getset_descriptor.__get__")))
    (hk : PySem.W.takesIn K (.builtin "object.__class__") = some true)
    (y0 : PySem.W.findIn K (.ref C) "_names" = some none)
    (y1 : PySem.W.findIn K (.ref C) "_table" = some none)
    (mk : Mk K C iF)
    (li : K.lookup iF = some ⟨oci, odi, .func (PySem.W.fnOf "__init__" "Facts.__init__" (defArgs sInit) (defBody sInit) (defScope sInit) (.ref Tt) kVi dci pmi ani cdi cti), sli⟩)
    (ci : PySem.W.codeIn K cdi "Facts.__init__" = true)
    (ki : PySem.W.keepIn K (.ref iF) = true)
    (lT : K.lookup Tt = some oT)
    (dT : ∃ n, oT.data = .seq #[.ref ad] n)
    (lk : K.lookup ad = some oe)
    (ct : oe.cls = .type "tuple")
    (de : ∃ n, oe.data = .seq #[] n)
    (mM0 : Meth K C "names" mg0)
    (ml0 : K.lookup mg0 = some ⟨mqc0, mpd0, .func (PySem.W.fnOf "names" "Facts.names" (defArgs sNamesM) (defBody sNamesM) (defScope sNamesM) .none mqV0 mqd0 mqm0 mpn0 mqe0 mqt0), mps0⟩)
    (mc0 : PySem.W.codeIn K mqe0 "Facts.names" = true)
    (mk0 : PySem.W.keepIn K (.ref mg0) = true)
    (eA : PySem.W.nsIn K mainGlobals "ApartError" = some (some (.ref AE)))
    (eW : PySem.W.nsIn K mainGlobals "Wrong" = some (some (.ref CW)))
    (eN : PySem.W.nsIn K mainGlobals "NoName" = some (some (.ref CN)))
    (eS : PySem.W.nsIn K mainGlobals "NoStart" = some (some (.ref CS)))
    (aeM : Mro K AE [.ref AE, .type "ValueError", .type "Exception", .type "BaseException", .type "object"])
    (aeT : PySem.W.typeIn K (.ref AE) = some (.type "type"))
    (xW : ExcC K CW)
    (nW : PySem.W.findIn K (.ref CW) "place" = some none)
    (mW : Mro K CW (errM CW AE))
    (iW : IniF K CW jW "Wrong.__init__" (inClass (top 3) 0))
    (xN : ExcC K CN)
    (nN : PySem.W.findIn K (.ref CN) "name" = some none)
    (mN : Mro K CN (errM CN AE))
    (iN : IniF K CN jN "NoName.__init__" (inClass (top 4) 0))
    (xS : ExcC K CS)
    (mS : Mro K CS (errM CS AE))
    (sx : PySem.W.excIn K CS [.type "ValueError", .type "Exception", .type "BaseException", .type "object"] "ValueError.__new__" = true)
    (sk : PySem.W.keepIn K (.ref CS) = true)
    (sb : PySem.W.subIn K (.ref CS) (.type "BaseException") = some true)
    (st : PySem.W.typeIn K (.ref CS) = some (.type "type"))
    (dNW : CN ≠ CW)
    (dSW : CS ≠ CW)
    (dSN : CS ≠ CN)
    (dAW : AE ≠ CW)
    (dAN : AE ≠ CN)
    (cL : PySem.W.nsIn K mainGlobals "LETTERS" = some (some (.str abc tL)))
    (cN : PySem.W.nsIn K mainGlobals "LONGEST_NAME" = some (some (.int 8 tN)))
    (a0 : PySem.W.nsIn K mainGlobals "is_integer" = some (some (.ref f0)))
    (l0 : K.lookup f0 = some ⟨oc0, od0, .func (PySem.W.fnOf "is_integer" "is_integer" (defArgs sIsInt) (defBody sIsInt) (defScope sIsInt) .none kV0 dc0 pm0 an0 cd0 ct0), sl0⟩)
    (c0 : PySem.W.codeIn K cd0 "is_integer" = true)
    (k0 : PySem.W.keepIn K (.ref f0) = true)
    (a1 : PySem.W.nsIn K mainGlobals "is_name" = some (some (.ref f1)))
    (l1 : K.lookup f1 = some ⟨oc1, od1, .func (PySem.W.fnOf "is_name" "is_name" (defArgs sIsName) (defBody sIsName) (defScope sIsName) .none kV1 dc1 pm1 an1 cd1 ct1), sl1⟩)
    (c1 : PySem.W.codeIn K cd1 "is_name" = true)
    (k1 : PySem.W.keepIn K (.ref f1) = true)
    (a2 : PySem.W.nsIn K mainGlobals "is_source" = some (some (.ref f2)))
    (l2 : K.lookup f2 = some ⟨oc2, od2, .func (PySem.W.fnOf "is_source" "is_source" (defArgs sIsSource) (defBody sIsSource) (defScope sIsSource) .none kV2 dc2 pm2 an2 cd2 ct2), sl2⟩)
    (c2 : PySem.W.codeIn K cd2 "is_source" = true)
    (k2 : PySem.W.keepIn K (.ref f2) = true)
    (a3 : PySem.W.nsIn K mainGlobals "is_row" = some (some (.ref f3)))
    (l3 : K.lookup f3 = some ⟨oc3, od3, .func (PySem.W.fnOf "is_row" "is_row" (defArgs sIsRow) (defBody sIsRow) (defScope sIsRow) .none kV3 dc3 pm3 an3 cd3 ct3), sl3⟩)
    (c3 : PySem.W.codeIn K cd3 "is_row" = true)
    (k3 : PySem.W.keepIn K (.ref f3) = true)
    (a4 : PySem.W.nsIn K mainGlobals "check_arguments" = some (some (.ref f4)))
    (l4 : K.lookup f4 = some ⟨oc4, od4, .func (PySem.W.fnOf "check_arguments" "check_arguments" (defArgs sChk) (defBody sChk) (defScope sChk) .none kV4 dc4 pm4 an4 cd4 ct4), sl4⟩)
    (c4 : PySem.W.codeIn K cd4 "check_arguments" = true)
    (k4 : PySem.W.keepIn K (.ref f4) = true)
    (a5 : PySem.W.nsIn K mainGlobals "are_names" = some (some (.ref f5)))
    (l5 : K.lookup f5 = some ⟨oc5, od5, .func (PySem.W.fnOf "are_names" "are_names" (defArgs sAreNames) (defBody sAreNames) (defScope sAreNames) .none kV5 dc5 pm5 an5 cd5 ct5), sl5⟩)
    (c5 : PySem.W.codeIn K cd5 "are_names" = true)
    (k5 : PySem.W.keepIn K (.ref f5) = true)
    (a6 : PySem.W.nsIn K mainGlobals "_are_facts" = some (some (.ref f6)))
    (l6 : K.lookup f6 = some ⟨oc6, od6, .func (PySem.W.fnOf "_are_facts" "_are_facts" (defArgs sAreFacts) (defBody sAreFacts) (defScope sAreFacts) .none kV6 dc6 pm6 an6 cd6 ct6), sl6⟩)
    (c6 : PySem.W.codeIn K cd6 "_are_facts" = true)
    (k6 : PySem.W.keepIn K (.ref f6) = true)
    (a7 : PySem.W.nsIn K mainGlobals "_is_fact" = some (some (.ref f7)))
    (l7 : K.lookup f7 = some ⟨oc7, od7, .func (PySem.W.fnOf "_is_fact" "_is_fact" (defArgs sIsFact) (defBody sIsFact) (defScope sIsFact) .none kV7 dc7 pm7 an7 cd7 ct7), sl7⟩)
    (c7 : PySem.W.codeIn K cd7 "_is_fact" = true)
    (k7 : PySem.W.keepIn K (.ref f7) = true)
    (a8 : PySem.W.nsIn K mainGlobals "_check_sources" = some (some (.ref f8)))
    (l8 : K.lookup f8 = some ⟨oc8, od8, .func (PySem.W.fnOf "_check_sources" "_check_sources" (defArgs sChkSrc) (defBody sChkSrc) (defScope sChkSrc) .none kV8 dc8 pm8 an8 cd8 ct8), sl8⟩)
    (c8 : PySem.W.codeIn K cd8 "_check_sources" = true)
    (k8 : PySem.W.keepIn K (.ref f8) = true)
    (a9 : PySem.W.nsIn K mainGlobals "_tightest" = some (some (.ref f9)))
    (l9 : K.lookup f9 = some ⟨oc9, od9, .func (PySem.W.fnOf "_tightest" "_tightest" (defArgs sTight) (defBody sTight) (defScope sTight) .none kV9 dc9 pm9 an9 cd9 ct9), sl9⟩)
    (c9 : PySem.W.codeIn K cd9 "_tightest" = true)
    (k9 : PySem.W.keepIn K (.ref f9) = true)
    (a10 : PySem.W.nsIn K mainGlobals "_closed" = some (some (.ref f10)))
    (l10 : K.lookup f10 = some ⟨oc10, od10, .func (PySem.W.fnOf "_closed" "_closed" (defArgs sClosed) (defBody sClosed) (defScope sClosed) .none kV10 dc10 pm10 an10 cd10 ct10), sl10⟩)
    (c10 : PySem.W.codeIn K cd10 "_closed" = true)
    (k10 : PySem.W.keepIn K (.ref f10) = true)
    (a11 : PySem.W.nsIn K mainGlobals "_law_bag" = some (some (.ref f11)))
    (l11 : K.lookup f11 = some ⟨oc11, od11, .func (PySem.W.fnOf "_law_bag" "_law_bag" (defArgs sBag) (defBody sBag) (defScope sBag) .none kV11 dc11 pm11 an11 cd11 ct11), sl11⟩)
    (c11 : PySem.W.codeIn K cd11 "_law_bag" = true)
    (k11 : PySem.W.keepIn K (.ref f11) = true)
    (a12 : PySem.W.nsIn K mainGlobals "_law_take" = some (some (.ref f12)))
    (l12 : K.lookup f12 = some ⟨oc12, od12, .func (PySem.W.fnOf "_law_take" "_law_take" (defArgs sTake) (defBody sTake) (defScope sTake) .none kV12 dc12 pm12 an12 cd12 ct12), sl12⟩)
    (c12 : PySem.W.codeIn K cd12 "_law_take" = true)
    (k12 : PySem.W.keepIn K (.ref f12) = true)
    (a13 : PySem.W.nsIn K mainGlobals "_law_alike" = some (some (.ref f13)))
    (l13 : K.lookup f13 = some ⟨oc13, od13, .func (PySem.W.fnOf "_law_alike" "_law_alike" (defArgs sAlike) (defBody sAlike) (defScope sAlike) .none kV13 dc13 pm13 an13 cd13 ct13), sl13⟩)
    (c13 : PySem.W.codeIn K cd13 "_law_alike" = true)
    (k13 : PySem.W.keepIn K (.ref f13) = true)
    (a14 : PySem.W.nsIn K mainGlobals "_law_mixed" = some (some (.ref f14)))
    (l14 : K.lookup f14 = some ⟨oc14, od14, .func (PySem.W.fnOf "_law_mixed" "_law_mixed" (defArgs sMixed) (defBody sMixed) (defScope sMixed) .none kV14 dc14 pm14 an14 cd14 ct14), sl14⟩)
    (c14 : PySem.W.codeIn K cd14 "_law_mixed" = true)
    (k14 : PySem.W.keepIn K (.ref f14) = true)
    (a15 : PySem.W.nsIn K mainGlobals "_law_names" = some (some (.ref f15)))
    (l15 : K.lookup f15 = some ⟨oc15, od15, .func (PySem.W.fnOf "_law_names" "_law_names" (defArgs sNames) (defBody sNames) (defScope sNames) .none kV15 dc15 pm15 an15 cd15 ct15), sl15⟩)
    (c15 : PySem.W.codeIn K cd15 "_law_names" = true)
    (k15 : PySem.W.keepIn K (.ref f15) = true)
    (a16 : PySem.W.nsIn K mainGlobals "_law_number" = some (some (.ref f16)))
    (l16 : K.lookup f16 = some ⟨oc16, od16, .func (PySem.W.fnOf "_law_number" "_law_number" (defArgs sNumber) (defBody sNumber) (defScope sNumber) .none kV16 dc16 pm16 an16 cd16 ct16), sl16⟩)
    (c16 : PySem.W.codeIn K cd16 "_law_number" = true)
    (k16 : PySem.W.keepIn K (.ref f16) = true)
    (a17 : PySem.W.nsIn K mainGlobals "_law_odd" = some (some (.ref f17)))
    (l17 : K.lookup f17 = some ⟨oc17, od17, .func (PySem.W.fnOf "_law_odd" "_law_odd" (defArgs sOdd) (defBody sOdd) (defScope sOdd) .none kV17 dc17 pm17 an17 cd17 ct17), sl17⟩)
    (c17 : PySem.W.codeIn K cd17 "_law_odd" = true)
    (k17 : PySem.W.keepIn K (.ref f17) = true)
    (a18 : PySem.W.nsIn K mainGlobals "_law_facts" = some (some (.ref f18)))
    (l18 : K.lookup f18 = some ⟨oc18, od18, .func (PySem.W.fnOf "_law_facts" "_law_facts" (defArgs sLFacts) (defBody sLFacts) (defScope sLFacts) .none kV18 dc18 pm18 an18 cd18 ct18), sl18⟩)
    (c18 : PySem.W.codeIn K cd18 "_law_facts" = true)
    (k18 : PySem.W.keepIn K (.ref f18) = true)
    (a19 : PySem.W.nsIn K mainGlobals "_law_closed" = some (some (.ref f19)))
    (l19 : K.lookup f19 = some ⟨oc19, od19, .func (PySem.W.fnOf "_law_closed" "_law_closed" (defArgs sLClosed) (defBody sLClosed) (defScope sLClosed) .none kV19 dc19 pm19 an19 cd19 ct19), sl19⟩)
    (c19 : PySem.W.codeIn K cd19 "_law_closed" = true)
    (k19 : PySem.W.keepIn K (.ref f19) = true)
    (a20 : PySem.W.nsIn K mainGlobals "_law_told" = some (some (.ref f20)))
    (l20 : K.lookup f20 = some ⟨oc20, od20, .func (PySem.W.fnOf "_law_told" "_law_told" (defArgs sTold) (defBody sTold) (defScope sTold) .none kV20 dc20 pm20 an20 cd20 ct20), sl20⟩)
    (c20 : PySem.W.codeIn K cd20 "_law_told" = true)
    (k20 : PySem.W.keepIn K (.ref f20) = true)
    (a21 : PySem.W.nsIn K mainGlobals "_law_is_name" = some (some (.ref f21)))
    (l21 : K.lookup f21 = some ⟨oc21, od21, .func (PySem.W.fnOf "_law_is_name" "_law_is_name" (defArgs sLName) (defBody sLName) (defScope sLName) .none kV21 dc21 pm21 an21 cd21 ct21), sl21⟩)
    (c21 : PySem.W.codeIn K cd21 "_law_is_name" = true)
    (k21 : PySem.W.keepIn K (.ref f21) = true)
    (a22 : PySem.W.nsIn K mainGlobals "_law_is_names" = some (some (.ref f22)))
    (l22 : K.lookup f22 = some ⟨oc22, od22, .func (PySem.W.fnOf "_law_is_names" "_law_is_names" (defArgs sLNames) (defBody sLNames) (defScope sLNames) .none kV22 dc22 pm22 an22 cd22 ct22), sl22⟩)
    (c22 : PySem.W.codeIn K cd22 "_law_is_names" = true)
    (k22 : PySem.W.keepIn K (.ref f22) = true)
    (a23 : PySem.W.nsIn K mainGlobals "_law_is_fact" = some (some (.ref f23)))
    (l23 : K.lookup f23 = some ⟨oc23, od23, .func (PySem.W.fnOf "_law_is_fact" "_law_is_fact" (defArgs sLFact) (defBody sLFact) (defScope sLFact) .none kV23 dc23 pm23 an23 cd23 ct23), sl23⟩)
    (c23 : PySem.W.codeIn K cd23 "_law_is_fact" = true)
    (k23 : PySem.W.keepIn K (.ref f23) = true)
    (a24 : PySem.W.nsIn K mainGlobals "_law_due" = some (some (.ref f24)))
    (l24 : K.lookup f24 = some ⟨oc24, od24, .func (PySem.W.fnOf "_law_due" "_law_due" (defArgs sLDue) (defBody sLDue) (defScope sLDue) .none kV24 dc24 pm24 an24 cd24 ct24), sl24⟩)
    (c24 : PySem.W.codeIn K cd24 "_law_due" = true)
    (k24 : PySem.W.keepIn K (.ref f24) = true)
    (a25 : PySem.W.nsIn K mainGlobals "_law_bent" = some (some (.ref f25)))
    (l25 : K.lookup f25 = some ⟨oc25, od25, .func (PySem.W.fnOf "_law_bent" "_law_bent" (defArgs sBent) (defBody sBent) (defScope sBent) .none kV25 dc25 pm25 an25 cd25 ct25), sl25⟩)
    (c25 : PySem.W.codeIn K cd25 "_law_bent" = true)
    (k25 : PySem.W.keepIn K (.ref f25) = true)
    (a26 : PySem.W.nsIn K mainGlobals "_law_more_bent" = some (some (.ref f26)))
    (l26 : K.lookup f26 = some ⟨oc26, od26, .func (PySem.W.fnOf "_law_more_bent" "_law_more_bent" (defArgs sMore) (defBody sMore) (defScope sMore) .none kV26 dc26 pm26 an26 cd26 ct26), sl26⟩)
    (c26 : PySem.W.codeIn K cd26 "_law_more_bent" = true)
    (k26 : PySem.W.keepIn K (.ref f26) = true)
    (a27 : PySem.W.nsIn K mainGlobals "law" = some (some (.ref f27)))
    (l27 : K.lookup f27 = some ⟨oc27, od27, .func (PySem.W.fnOf "law" "law" (defArgs sLaw) (defBody sLaw) (defScope sLaw) .none kV27 dc27 pm27 an27 cd27 ct27), sl27⟩)
    (c27 : PySem.W.codeIn K cd27 "law" = true)
    (k27 : PySem.W.keepIn K (.ref f27) = true)
    (z0 : PySem.W.nsIn K mainGlobals "abs" = some none)
    (z1 : PySem.W.nsIn K mainGlobals "int" = some none)
    (z2 : PySem.W.nsIn K mainGlobals "len" = some none)
    (z3 : PySem.W.nsIn K mainGlobals "isinstance" = some none)
    (z4 : PySem.W.nsIn K mainGlobals "bool" = some none)
    (z5 : PySem.W.nsIn K mainGlobals "str" = some none)
    (z6 : PySem.W.nsIn K mainGlobals "all" = some none)
    (z7 : PySem.W.nsIn K mainGlobals "range" = some none)
    (z8 : PySem.W.nsIn K mainGlobals "repr" = some none)
    (z9 : PySem.W.nsIn K mainGlobals "list" = some none)
    (z10 : PySem.W.nsIn K mainGlobals "tuple" = some none)
    (z11 : PySem.W.nsIn K mainGlobals "sorted" = some none)
    (z12 : PySem.W.nsIn K mainGlobals "enumerate" = some none) :
    ∃ fd : FuncData, (∀ (s : Shared) (v : Value), BindsTo s fd ⟨[v], []⟩ [("_law_script", v)]) ∧ ∀ base : Heap, K.In base → base.Ns mainGlobals mg → FnG l.prog w K mg base 8 fa fd ["_law_script"] (spLaw K) := by
  have e := hfa.symm.trans (PySem.W.mg_of X G a27)
  cases e
  have F0 := fun_mk (st := sIsInt) l0 c0 k0
  have b0 := F0.binds (ps := ["thing"]) fun _ _ _ _ _ _ us hl => match us, hl with | [_], _ => rfl
  have F1 := fun_mk (st := sIsName) l1 c1 k1
  have b1 := F1.binds (ps := ["thing"]) fun _ _ _ _ _ _ us hl => match us, hl with | [_], _ => rfl
  have F2 := fun_mk (st := sIsSource) l2 c2 k2
  have b2 := F2.binds (ps := ["thing"]) fun _ _ _ _ _ _ us hl => match us, hl with | [_], _ => rfl
  have F3 := fun_mk (st := sIsRow) l3 c3 k3
  have b3 := F3.binds (ps := ["thing"]) fun _ _ _ _ _ _ us hl => match us, hl with | [_], _ => rfl
  have F4 := fun_mk (st := sChk) l4 c4 k4
  have b4 := F4.binds (ps := ["rights"]) fun _ _ _ _ _ _ us hl => match us, hl with | [_], _ => rfl
  have F5 := fun_mk (st := sAreNames) l5 c5 k5
  have b5 := F5.binds (ps := ["thing"]) fun _ _ _ _ _ _ us hl => match us, hl with | [_], _ => rfl
  have F6 := fun_mk (st := sAreFacts) l6 c6 k6
  have b6 := F6.binds (ps := ["thing"]) fun _ _ _ _ _ _ us hl => match us, hl with | [_], _ => rfl
  have F7 := fun_mk (st := sIsFact) l7 c7 k7
  have b7 := F7.binds (ps := ["thing"]) fun _ _ _ _ _ _ us hl => match us, hl with | [_], _ => rfl
  have F8 := fun_mk (st := sChkSrc) l8 c8 k8
  have b8 := F8.binds (ps := ["names", "facts"]) fun _ _ _ _ _ _ us hl => match us, hl with | [_, _], _ => rfl
  have F9 := fun_mk (st := sTight) l9 c9 k9
  have b9 := F9.binds (ps := ["facts"]) fun _ _ _ _ _ _ us hl => match us, hl with | [_], _ => rfl
  have F10 := fun_mk (st := sClosed) l10 c10 k10
  have b10 := F10.binds (ps := ["facts"]) fun _ _ _ _ _ _ us hl => match us, hl with | [_], _ => rfl
  have F11 := fun_mk (st := sBag) l11 c11 k11
  have b11 := F11.binds (ps := ["_law_script"]) fun _ _ _ _ _ _ us hl => match us, hl with | [_], _ => rfl
  have F12 := fun_mk (st := sTake) l12 c12 k12
  have b12 := F12.binds (ps := ["_law_bag_here", "_law_many"]) fun _ _ _ _ _ _ us hl => match us, hl with | [_, _], _ => rfl
  have F13 := fun_mk (st := sAlike) l13 c13 k13
  have b13 := bindG_of F13 (ps := ["_law_found", "_law_due_here"]) fun _ _ _ _ _ _ us hl => match us, hl with | [_, _], _ => rfl
  have F14 := fun_mk (st := sMixed) l14 c14 k14
  have b14 := F14.binds (ps := ["_law_bag_here", "_law_things"]) fun _ _ _ _ _ _ us hl => match us, hl with | [_, _], _ => rfl
  have F15 := fun_mk (st := sNames) l15 c15 k15
  have b15 := F15.binds (ps := ["_law_bag_here", "_law_many"]) fun _ _ _ _ _ _ us hl => match us, hl with | [_, _], _ => rfl
  have F16 := fun_mk (st := sNumber) l16 c16 k16
  have b16 := F16.binds (ps := ["_law_bag_here"]) fun _ _ _ _ _ _ us hl => match us, hl with | [_], _ => rfl
  have F17 := fun_mk (st := sOdd) l17 c17 k17
  have b17 := F17.binds (ps := ["_law_bag_here", "_law_name"]) fun _ _ _ _ _ _ us hl => match us, hl with | [_, _], _ => rfl
  have F18 := fun_mk (st := sLFacts) l18 c18 k18
  have b18 := F18.binds (ps := ["_law_bag_here", "_law_names_here"]) fun _ _ _ _ _ _ us hl => match us, hl with | [_, _], _ => rfl
  have F19 := fun_mk (st := sLClosed) l19 c19 k19
  have b19 := F19.binds (ps := ["_law_names_here", "_law_facts_here"]) fun _ _ _ _ _ _ us hl => match us, hl with | [_, _], _ => rfl
  have F20 := fun_mk (st := sTold) l20 c20 k20
  have b20 := F20.binds (ps := ["_law_names_here", "_law_facts_here"]) fun _ _ _ _ _ _ us hl => match us, hl with | [_, _], _ => rfl
  have F21 := fun_mk (st := sLName) l21 c21 k21
  have b21 := F21.binds (ps := ["_law_thing"]) fun _ _ _ _ _ _ us hl => match us, hl with | [_], _ => rfl
  have F22 := fun_mk (st := sLNames) l22 c22 k22
  have b22 := F22.binds (ps := ["_law_thing"]) fun _ _ _ _ _ _ us hl => match us, hl with | [_], _ => rfl
  have F23 := fun_mk (st := sLFact) l23 c23 k23
  have b23 := F23.binds (ps := ["_law_thing"]) fun _ _ _ _ _ _ us hl => match us, hl with | [_], _ => rfl
  have F24 := fun_mk (st := sLDue) l24 c24 k24
  have b24 := F24.binds (ps := ["_law_names_here", "_law_facts_here"]) fun _ _ _ _ _ _ us hl => match us, hl with | [_, _], _ => rfl
  have F25 := fun_mk (st := sBent) l25 c25 k25
  have b25 := F25.binds (ps := ["_law_bag_here", "_law_names_here", "_law_facts_here"]) fun _ _ _ _ _ _ us hl => match us, hl with | [_, _, _], _ => rfl
  have F26 := fun_mk (st := sMore) l26 c26 k26
  have b26 := F26.binds (ps := ["_law_bag_here", "_law_names_here", "_law_handed"]) fun _ _ _ _ _ _ us hl => match us, hl with | [_, _, _], _ => rfl
  have F27 := fun_mk (st := sLaw) l27 c27 k27
  have mF0 := fun_mk (st := sNamesM) ml0 mc0 mk0
  have mb0 := mF0.binds (ps := ["self"]) fun _ _ _ _ _ _ us hl => match us, hl with | [_], _ => rfl
  obtain ⟨nT, dT⟩ := dT
  obtain ⟨ne, de⟩ := de
  have FI : FunD K "__init__" "Facts.__init__" (defArgs sInit) (defBody sInit) (defScope sInit) [.ref ad] [] iF _ := ⟨⟨oci, odi, .ref Tt, kVi, dci, pmi, ani, cdi, cti, sli, rfl, li, ci, .inr ⟨nofun, Tt, oT, [.ref ad], nT, rfl, lT, dT, .cons rfl .nil⟩, .inl rfl⟩, ki⟩
  have bI := ini_bindsA (kV := kVi) (dc := dci) (pm := pmi) (cd := cdi) (ct := cti) (an := ani) lT dT
  have bI0 := ini_binds (kV := kVi) (dc := dci) (pm := pmi) (cd := cdi) (ct := cti) (an := ani) lT dT
  have ht : ∀ H, SqT K H ad [] := fun H => .inr ⟨oe, #[], ne, lk, ct, de, by show 0 ≤ sizeLine; decide, .nil⟩
  have hoI : PySem.W.mroIn K C (.type "object") = some true := (tM.sub _).trans (by
    congr 1)
  have tF : KFn K C := ⟨tC, tH, hn, hk, hoI, tM.kit (by decide +kernel), tM.kit (by decide +kernel), tM.kit (by decide +kernel), tM.kit (by decide +kernel), tM.kit (by decide +kernel)⟩
  have tG : FacC K C := ⟨tC, y0, y1⟩
  obtain ⟨fdW, FEW⟩ := iW.fn
  obtain ⟨fdN, FEN⟩ := iN.fn
  have E3 : Errs3 K mg CW CN CS AE := ⟨PySem.W.mg_of X G eA, PySem.W.mg_of X G eW, PySem.W.mg_of X G eN, PySem.W.mg_of X G eS, xW, xN, xS, nW, nN, mW.exm2 aeM (by rfl) aeT, mN.exm2 aeM (by rfl) aeT, mS.exm2 aeM (by rfl) aeT, kit_self, mN.kit2 mW iW.ox.tyC dNW dAW, kit_self, mS.kit2 mW iW.ox.tyC dSW dAW, mS.kit2 mN iN.ox.tyC dSN dAN, kit_self⟩
  have OS : Err0 K mg "NoStart" CS := ⟨sx, PySem.W.mg_of X G eS, sk, sb, st⟩
  refine ⟨PySem.W.fnOf "law" "law" (defArgs sLaw) (defBody sLaw) (defScope sLaw) .none kV27 dc27 pm27 an27 cd27 ct27, fun s v => .of_eq rfl, fun base _ _ => ?_⟩
  have OW := own_Wrong (P := l.prog) (w := w) (base := base) FEW iW.ox nW (PySem.W.mg_of X G eW) iW.fi iW.tI
  have ON := own_NoName (P := l.prog) (w := w) (base := base) FEN iN.ox nN (PySem.W.mg_of X G eN) iN.fi iN.tI
  have G0 := ok_isint (P := l.prog) (w := w) (base := base) tF F0 (PySem.W.mg_none_of X G z3) (PySem.W.mg_none_of X G z1) (PySem.W.mg_none_of X G z4)
  have G1 := ok_isname (P := l.prog) (w := w) (base := base) tF F1 (PySem.W.mg_none_of X G z3) (PySem.W.mg_none_of X G z5) (PySem.W.mg_none_of X G z2) (PySem.W.mg_none_of X G z6) (PySem.W.mg_of X G cL) (PySem.W.mg_of X G cN)
  have G2 := ok_issource (P := l.prog) (w := w) (base := base) tF F2 G1 b1 (PySem.W.mg_of X G a1) k1 (PySem.W.mg_none_of X G z3) (PySem.W.mg_none_of X G z5) (PySem.W.mg_none_of X G z2)
  have G4 := ok_chk (P := l.prog) (w := w) (base := base) F4 (PySem.W.mg_none_of X G z12)
  have G3 := ok_isrow (P := l.prog) (w := w) (base := base) tF F3 (PySem.W.mg_none_of X G z3) (PySem.W.mg_none_of X G z9) (PySem.W.mg_none_of X G z10)
  have G5 := ok_arenames (P := l.prog) (w := w) (base := base) F5 G3 b3 (PySem.W.mg_of X G a3) k3 G1 b1 (PySem.W.mg_of X G a1) k1 (PySem.W.mg_none_of X G z6) (PySem.W.mg_none_of X G z2)
  have G7 := ok_isfact (P := l.prog) (w := w) (base := base) tF F7 G2 b2 (PySem.W.mg_of X G a2) k2 G0 b0 (PySem.W.mg_of X G a0) k0 (PySem.W.mg_none_of X G z3) (PySem.W.mg_none_of X G z10) (PySem.W.mg_none_of X G z2)
  have G6 := ok_arefacts (P := l.prog) (w := w) (base := base) F6 G3 b3 (PySem.W.mg_of X G a3) k3 G7 b7 (PySem.W.mg_of X G a7) k7 (PySem.W.mg_none_of X G z6)
  have GRn := no_isrow (P := l.prog) (w := w) (base := base) F3 (PySem.W.mg_none_of X G z3) (PySem.W.mg_none_of X G z9) (PySem.W.mg_none_of X G z10)
  have GNn := orN G5 (no_arenames (P := l.prog) (w := w) (base := base) F5 GRn b3 (PySem.W.mg_of X G a3) k3 G1 b1 (PySem.W.mg_of X G a1) k1 (PySem.W.mg_none_of X G z6) (PySem.W.mg_none_of X G z2))
  have GFn := orN G6 (no_arefacts (P := l.prog) (w := w) (base := base) F6 GRn b3 (PySem.W.mg_of X G a3) k3 G7 b7 (PySem.W.mg_of X G a7) k7 (PySem.W.mg_none_of X G z6))
  have GCA := ok_chkA (P := l.prog) (w := w) (base := base) F4 OW (PySem.W.mg_none_of X G z12)
  have GSR := ok_chksR (P := l.prog) (w := w) (base := base) F8 ON
  have GTA := ok_tightA (P := l.prog) (w := w) (base := base) F9 OS
  have GDA := ok_closedA (P := l.prog) (w := w) (base := base) F10 GTA b9 (PySem.W.mg_of X G a9) k9 (PySem.W.mg_none_of X G z11)
  have GMD := ok_made (P := l.prog) (w := w) (base := base) FI tG GCA b4 (PySem.W.mg_of X G a4) k4 GNn b5 (PySem.W.mg_of X G a5) k5 GFn b6 (PySem.W.mg_of X G a6) k6 GSR b8 (PySem.W.mg_of X G a8) k8 GDA b10 (PySem.W.mg_of X G a10) k10 (PySem.W.mg_none_of X G z11)
  have GRT := ok_isrowT (P := l.prog) (w := w) (base := base) F3 (PySem.W.mg_none_of X G z3) (PySem.W.mg_none_of X G z9) (PySem.W.mg_none_of X G z10)
  have GA0 := ok_arefacts0 (P := l.prog) (w := w) (base := base) F6 GRT b3 (PySem.W.mg_of X G a3) k3 (PySem.W.mg_none_of X G z6)
  have GS0 := ok_chks0 (P := l.prog) (w := w) (base := base) (mg := mg) F8
  have GT0 := ok_tight0 (P := l.prog) (w := w) (base := base) (mg := mg) F9
  have GC0 := ok_closed0 (P := l.prog) (w := w) (base := base) F10 GT0 b9 (PySem.W.mg_of X G a9) k9 (PySem.W.mg_none_of X G z11)
  have GIN0 := ok_ini0 (P := l.prog) (w := w) (base := base) FI tG G4 b4 (PySem.W.mg_of X G a4) k4 G5 b5 (PySem.W.mg_of X G a5) k5 GA0 b6 (PySem.W.mg_of X G a6) k6 GS0 b8 (PySem.W.mg_of X G a8) k8 GC0 b10 (PySem.W.mg_of X G a10) k10 (PySem.W.mg_none_of X G z11)
  have MN := ok_namesm (P := l.prog) (w := w) (base := base) (mg := mg) tG mF0 (PySem.W.mg_none_of X G z9)
  have MN0 := ok_nm0 (P := l.prog) (w := w) (base := base) (mg := mg) tG mF0 (PySem.W.mg_none_of X G z9)
  have G11 := ok_bag (P := l.prog) (w := w) (base := base) F11 (PySem.W.mg_none_of X G z0)
  have G12 := ok_take (P := l.prog) (w := w) (base := base) F12 (PySem.W.mg_none_of X G z1) (PySem.W.mg_none_of X G z2)
  have G13 := ok_alike (P := l.prog) (w := w) (base := base) F13 (PySem.W.mg_none_of X G z8)
  have G14 := ok_mixed (P := l.prog) (w := w) (base := base) F14 G12 b12 (PySem.W.mg_of X G a12) k12 (PySem.W.mg_none_of X G z2)
  have G15 := ok_names (P := l.prog) (w := w) (base := base) F15 G12 b12 (PySem.W.mg_of X G a12) k12 (PySem.W.mg_none_of X G z7) (PySem.W.mg_none_of X G z2) (PySem.W.mg_none_of X G z1)
  have G16 := ok_number (P := l.prog) (w := w) (base := base) F16 G12 b12 (PySem.W.mg_of X G a12) k12 (PySem.W.mg_none_of X G z1)
  have G17 := ok_oddQ (P := l.prog) (w := w) (base := base) F17 G12 b12 (PySem.W.mg_of X G a12) k12 (PySem.W.mg_none_of X G z1) (PySem.W.mg_none_of X G z2)
  have G18 := ok_lfacts (P := l.prog) (w := w) (base := base) F18 G12 b12 (PySem.W.mg_of X G a12) k12 G16 b16 (PySem.W.mg_of X G a16) k16 (PySem.W.mg_none_of X G z7) (PySem.W.mg_none_of X G z2) (PySem.W.mg_none_of X G z9)
  have G19 := ok_lclosedR (P := l.prog) (w := w) (base := base) F19 (PySem.W.mg_none_of X G z7) (PySem.W.mg_none_of X G z2) (PySem.W.mg_none_of X G z9)
  have G20 := ok_told (P := l.prog) (w := w) (base := base) F20 tG mk (PySem.W.mg_of X G eF) E3 GMD bI mM0 MN mb0 (PySem.W.mg_none_of X G z3)
  have G21 := ok_lname (P := l.prog) (w := w) (base := base) tF F21 (PySem.W.mg_none_of X G z3) (PySem.W.mg_none_of X G z5) (PySem.W.mg_none_of X G z2)
  have G22 := ok_lnames (P := l.prog) (w := w) (base := base) tF F22 G21 b21 (PySem.W.mg_of X G a21) k21 (PySem.W.mg_none_of X G z3) (PySem.W.mg_none_of X G z9) (PySem.W.mg_none_of X G z10) (PySem.W.mg_none_of X G z2) (PySem.W.mg_none_of X G z7)
  have G23 := ok_lfact (P := l.prog) (w := w) (base := base) tF F23 G21 b21 (PySem.W.mg_of X G a21) k21 (PySem.W.mg_none_of X G z3) (PySem.W.mg_none_of X G z10) (PySem.W.mg_none_of X G z2) (PySem.W.mg_none_of X G z1) (PySem.W.mg_none_of X G z4) (PySem.W.mg_none_of X G z5)
  have G24 := ok_due (P := l.prog) (w := w) (base := base) tF F24 G22 b22 (PySem.W.mg_of X G a22) k22 G23 b23 (PySem.W.mg_of X G a23) k23 G19 b19 (PySem.W.mg_of X G a19) k19 (PySem.W.mg_none_of X G z3) (PySem.W.mg_none_of X G z9) (PySem.W.mg_none_of X G z10) (PySem.W.mg_none_of X G z11)
  have G25 := ok_bent (P := l.prog) (w := w) (base := base) F25 G12 b12 (PySem.W.mg_of X G a12) k12 G17 b17 (PySem.W.mg_of X G a17) k17 G14 b14 (PySem.W.mg_of X G a14) k14 (PySem.W.mg_none_of X G z9) (PySem.W.mg_none_of X G z10) (PySem.W.mg_none_of X G z2)
  have G26 := ok_moreb (P := l.prog) (w := w) (base := base) F26 G12 b12 (PySem.W.mg_of X G a12) k12 G17 b17 (PySem.W.mg_of X G a17) k17 (PySem.W.mg_none_of X G z3) (PySem.W.mg_none_of X G z9) (PySem.W.mg_none_of X G z2)
  exact ok_law F27 tG G11 b11 (PySem.W.mg_of X G a11) k11 G12 b12 (PySem.W.mg_of X G a12) k12 G15 b15 (PySem.W.mg_of X G a15) k15 G18 b18 (PySem.W.mg_of X G a18) k18 G25 b25 (PySem.W.mg_of X G a25) k25 G26 b26 (PySem.W.mg_of X G a26) k26 G24 b24 (PySem.W.mg_of X G a24) k24 G13 b13 (PySem.W.mg_of X G a13) k13 G20 b20 (PySem.W.mg_of X G a20) k20 mk GIN0 bI0 (PySem.W.mg_of X G eF) lk ct ht mM0 MN0 mb0 (PySem.W.mg_none_of X G z7) (PySem.W.mg_none_of X G z8)
end Fv


set_option Elab.async false
open PySem PySem.W PyProof.Rows
set_option maxRecDepth 100000 in
set_option maxHeartbeats 0 in
theorem PySem.Challenge.cw_farapart_k13_facts_made_holds : PySem.Challenge.rw_farapart_k13_facts_made.Holds := by
  w_on; o_law; k_head; (case hw => w_witness2)
  k_fill
  refine Fv.walk_G (l := PySem.Challenge.rw_farapart_k13_facts_made) (n := 63) (k := 8) (x := "_law_script") (sp := Fv.spLaw) rfl (by decide) rfl ⟨rfl, by decide, by decide⟩ (fun w h Y => PySem.W.kIn_of Y) ?F (fun K H a ns hl _ hS => ⟨a, ns, rfl, hS, hl, fun _ => rfl⟩)
  case F =>
    intro w mg fa h KX G hmg
    refine' Fv.all_mk KX G hmg ?eF ?tC ?tM ?tH ?hn ?hk ?y0 ?y1 ?mk ?li ?ci ?ki ?lT ?dT ?lk ?ct ?de ?mM0 ?ml0 ?mc0 ?mk0 ?eA ?eW ?eN ?eS ?aeM ?aeT ?xW ?nW ?mW ?iW ?xN ?nN ?mN ?iN ?xS ?mS ?sx ?sk ?sb ?st ?dNW ?dSW ?dSN ?dAW ?dAN ?cL ?cN ?a0 ?l0 ?c0 ?k0 ?a1 ?l1 ?c1 ?k1 ?a2 ?l2 ?c2 ?k2 ?a3 ?l3 ?c3 ?k3 ?a4 ?l4 ?c4 ?k4 ?a5 ?l5 ?c5 ?k5 ?a6 ?l6 ?c6 ?k6 ?a7 ?l7 ?c7 ?k7 ?a8 ?l8 ?c8 ?k8 ?a9 ?l9 ?c9 ?k9 ?a10 ?l10 ?c10 ?k10 ?a11 ?l11 ?c11 ?k11 ?a12 ?l12 ?c12 ?k12 ?a13 ?l13 ?c13 ?k13 ?a14 ?l14 ?c14 ?k14 ?a15 ?l15 ?c15 ?k15 ?a16 ?l16 ?c16 ?k16 ?a17 ?l17 ?c17 ?k17 ?a18 ?l18 ?c18 ?k18 ?a19 ?l19 ?c19 ?k19 ?a20 ?l20 ?c20 ?k20 ?a21 ?l21 ?c21 ?k21 ?a22 ?l22 ?c22 ?k22 ?a23 ?l23 ?c23 ?k23 ?a24 ?l24 ?c24 ?k24 ?a25 ?l25 ?c25 ?k25 ?a26 ?l26 ?c26 ?k26 ?a27 ?l27 ?c27 ?k27 ?z0 ?z1 ?z2 ?z3 ?z4 ?z5 ?z6 ?z7 ?z8 ?z9 ?z10 ?z11 ?z12
    (case eF => k_is)
    (case tC => exact ⟨by k_is, by k_is, by k_is, by k_is⟩)
    (case tM => exact ⟨_, by k_is, by rfl⟩)
    (case tH => k_is)
    (case hn => k_is)
    (case hk => k_is)
    (case y0 => k_is)
    (case y1 => k_is)
    (case mk => exact ⟨by k_is, by k_is, by k_is, by k_is⟩)
    (case li => k_is)
    (case ci => k_is)
    (case ki => k_is)
    (case lT => k_is)
    (case dT => exact ⟨_, rfl⟩)
    (case lk => k_is)
    (case ct => rfl)
    (case de => exact ⟨_, rfl⟩)
    (case mM0 => exact ⟨by k_is, by k_is, by k_is⟩)
    (case ml0 => k_is)
    (case mc0 => k_is)
    (case mk0 => k_is)
    (case eA => k_is)
    (case eW => k_is)
    (case eN => k_is)
    (case eS => k_is)
    (case aeM => exact ⟨_, by k_is, by rfl⟩)
    (case aeT => k_is)
    (case xW => exact ⟨by k_is, by k_is, by k_is, by k_is, by k_is, by k_is, by k_is, by k_is⟩)
    (case nW => k_is)
    (case mW => exact ⟨_, by k_is, by rfl⟩)
    (case iW => exact ⟨⟨⟨_, _, _, _, _, _, _, _, _, _, _, _, _, _, _, by k_is, by decide +kernel⟩, by k_is, by k_is, by k_is, by k_is⟩, by k_is, by k_is, ⟨_, L2.fun_mk (by k_is) (by k_is) (by k_is)⟩⟩)
    (case xN => exact ⟨by k_is, by k_is, by k_is, by k_is, by k_is, by k_is, by k_is, by k_is⟩)
    (case nN => k_is)
    (case mN => exact ⟨_, by k_is, by rfl⟩)
    (case iN => exact ⟨⟨⟨_, _, _, _, _, _, _, _, _, _, _, _, _, _, _, by k_is, by decide +kernel⟩, by k_is, by k_is, by k_is, by k_is⟩, by k_is, by k_is, ⟨_, L2.fun_mk (by k_is) (by k_is) (by k_is)⟩⟩)
    (case xS => exact ⟨by k_is, by k_is, by k_is, by k_is, by k_is, by k_is, by k_is, by k_is⟩)
    (case mS => exact ⟨_, by k_is, by rfl⟩)
    (case sx => k_exc)
    (case sk => k_is)
    (case sb => k_is)
    (case st => k_is)
    (case dNW => decide)
    (case dSW => decide)
    (case dSN => decide)
    (case dAW => decide)
    (case dAN => decide)
    (case cL => k_is)
    (case cN => k_is)
    (case a0 => k_is)
    (case l0 => k_is)
    (case c0 => k_is)
    (case k0 => k_is)
    (case a1 => k_is)
    (case l1 => k_is)
    (case c1 => k_is)
    (case k1 => k_is)
    (case a2 => k_is)
    (case l2 => k_is)
    (case c2 => k_is)
    (case k2 => k_is)
    (case a3 => k_is)
    (case l3 => k_is)
    (case c3 => k_is)
    (case k3 => k_is)
    (case a4 => k_is)
    (case l4 => k_is)
    (case c4 => k_is)
    (case k4 => k_is)
    (case a5 => k_is)
    (case l5 => k_is)
    (case c5 => k_is)
    (case k5 => k_is)
    (case a6 => k_is)
    (case l6 => k_is)
    (case c6 => k_is)
    (case k6 => k_is)
    (case a7 => k_is)
    (case l7 => k_is)
    (case c7 => k_is)
    (case k7 => k_is)
    (case a8 => k_is)
    (case l8 => k_is)
    (case c8 => k_is)
    (case k8 => k_is)
    (case a9 => k_is)
    (case l9 => k_is)
    (case c9 => k_is)
    (case k9 => k_is)
    (case a10 => k_is)
    (case l10 => k_is)
    (case c10 => k_is)
    (case k10 => k_is)
    (case a11 => k_is)
    (case l11 => k_is)
    (case c11 => k_is)
    (case k11 => k_is)
    (case a12 => k_is)
    (case l12 => k_is)
    (case c12 => k_is)
    (case k12 => k_is)
    (case a13 => k_is)
    (case l13 => k_is)
    (case c13 => k_is)
    (case k13 => k_is)
    (case a14 => k_is)
    (case l14 => k_is)
    (case c14 => k_is)
    (case k14 => k_is)
    (case a15 => k_is)
    (case l15 => k_is)
    (case c15 => k_is)
    (case k15 => k_is)
    (case a16 => k_is)
    (case l16 => k_is)
    (case c16 => k_is)
    (case k16 => k_is)
    (case a17 => k_is)
    (case l17 => k_is)
    (case c17 => k_is)
    (case k17 => k_is)
    (case a18 => k_is)
    (case l18 => k_is)
    (case c18 => k_is)
    (case k18 => k_is)
    (case a19 => k_is)
    (case l19 => k_is)
    (case c19 => k_is)
    (case k19 => k_is)
    (case a20 => k_is)
    (case l20 => k_is)
    (case c20 => k_is)
    (case k20 => k_is)
    (case a21 => k_is)
    (case l21 => k_is)
    (case c21 => k_is)
    (case k21 => k_is)
    (case a22 => k_is)
    (case l22 => k_is)
    (case c22 => k_is)
    (case k22 => k_is)
    (case a23 => k_is)
    (case l23 => k_is)
    (case c23 => k_is)
    (case k23 => k_is)
    (case a24 => k_is)
    (case l24 => k_is)
    (case c24 => k_is)
    (case k24 => k_is)
    (case a25 => k_is)
    (case l25 => k_is)
    (case c25 => k_is)
    (case k25 => k_is)
    (case a26 => k_is)
    (case l26 => k_is)
    (case c26 => k_is)
    (case k26 => k_is)
    (case a27 => k_is)
    (case l27 => k_is)
    (case c27 => k_is)
    (case k27 => k_is)
    (case z0 => k_is)
    (case z1 => k_is)
    (case z2 => k_is)
    (case z3 => k_is)
    (case z4 => k_is)
    (case z5 => k_is)
    (case z6 => k_is)
    (case z7 => k_is)
    (case z8 => k_is)
    (case z9 => k_is)
    (case z10 => k_is)
    (case z11 => k_is)
    (case z12 => k_is)

