import PyProof.Rows.All
import Wide.All
import OpenK.AllK
import Wide.FinOn
import PySem.Challenge.RW_floorcurves_k50_table_of_counts
import Lean
import PyProof.EqAt
import PyProof.EqKinds
import PyProof.TupleCall
local macro_rules | `(tactic| lia) => `(tactic| first | lia -verbose | omega)
local macro_rules | `(tactic| ac_nf) => `(tactic| decide +kernel)
local macro_rules | `(tactic| trivial) => `(tactic| first | exact Or.inl rfl | exact Or.inr rfl)
abbrev A0:=@PySem.wpAny_bind
abbrev A1:=@List.length_map
abbrev A2:=@PySem.wpAny_pure
abbrev A3:=@List.getElem?_eq_getElem
abbrev A4:=@Option.map_eq_some_iff
abbrev A5:=@if_neg
abbrev A6:=@PySem.Heap.get?_push_of_some
abbrev A7:=@if_pos
abbrev A8:=@List.getD_eq_getElem?_getD
abbrev A9:=@List.getElem?_map
abbrev AA:=@Nat.le_refl
abbrev AB:=@Option.bind_eq_some_iff
abbrev AC:=@List.length_append
abbrev AD:=@List.getElem?_eq_some_iff
abbrev AE:=@List.size_toArray
abbrev AF:=@PySem.Heap.get?_push_size
abbrev AG:=@List.map_append
abbrev AH:=@Bool.false_eq_true
abbrev AI:=@PySem.Heap.lt_size
abbrev AJ:=@List.mem_cons
abbrev AK:=@List.map_cons
abbrev AL:=@Nat.ne_of_lt
abbrev AM:=@Nat.zero_le
abbrev AN:=@Bool.and_eq_true
abbrev AO:=@PyProof.Rows.wpS_bind
abbrev AQ:=@PySem.PassesOwn.never
abbrev AR:=@List.mem_cons_of_mem
abbrev AS:=@List.mem_singleton
abbrev AT:=@Bool.false_ne_true
abbrev AU:=@List.mem_of_getElem?
abbrev AV:=@List.mem_range
abbrev AW:=@List.take_length
abbrev AX:=@List.mem_cons_self
abbrev AY:=@List.length_cons
abbrev AZ:=@List.take_add_one
abbrev Aa:=@PyProof.Rows.wpS_pure
abbrev Ab:=@PySem.wpAny_call_entry
abbrev Ac:=@PySem.F.plainAttrs_list
abbrev Ad:=@Nat.lt_succ_of_lt
abbrev Ae:=@Option.some.inj
abbrev Af:=@List.mem_map
abbrev Ag:=@Nat.lt_of_lt_of_le
abbrev Ah:=@Array.length_toList
abbrev Ai:=@Array.getElem?_eq_getElem
abbrev Aj:=@List.sum_cons
abbrev Ak:=@decide_eq_false
abbrev Al:=@List.all_eq_true
abbrev Am:=@if_false
abbrev An:=@Nat.le_of_lt
abbrev Ao:=@List.map_congr_left
abbrev Ap:=@Int.toNat_natCast
abbrev Aq:=@PySem.wpAny_newObj_type
abbrev Ar:=@PySem.wpAny_holding
abbrev As:=@List.not_mem_nil
abbrev At:=@List.mem_flatMap
abbrev Au:=@List.range_succ
abbrev Av:=@List.append_nil
abbrev Aw:=@PySem.sizeLine_eq
abbrev Ax:=@PySem.wpAny_callSpecial?_slot
abbrev Ay:=@PySem.W.mg_none_of
abbrev Az:=@PySem.Heap.size_push
abbrev B0:=@List.flatMap_append
abbrev B1:=@PySem.Heap.size_update
abbrev B2:=@of_decide_eq_true
abbrev B3:=@Option.some.injEq
abbrev B4:=@List.length_take
abbrev B5:=@PySem.Heap.get?_push_ne
abbrev B6:=@Nat.le_trans
abbrev B7:=@PySem.F.type_list_append
abbrev B8:=@PySem.F.slot_list_append
abbrev B9:=@PySem.Heap.SameBut.update
abbrev B':=@decide_eq_true_eq
abbrev BA:=@List.append_assoc
abbrev BB:=@List.mem_append_right
abbrev BC:=@List.length_replicate
abbrev BD:=@List.flatMap_cons
abbrev BE:=@Bool.not_true
abbrev BF:=@decide_eq_true
abbrev BG:=@List.replicate_succ
abbrev BH:=@PyProof.Rows.callWith_type1
abbrev BI:=@List.length_range
abbrev BJ:=@Int.eq_ofNat_of_zero_le
abbrev BK:=@PyProof.Rows.slot_tuple_getitem
abbrev BL:=@PySem.wpAny_setState_of
abbrev BM:=@Prod.mk.injEq
abbrev BN:=@List.nodup_cons
abbrev BO:=@List.find?_cons
abbrev BP:=@Nat.lt_succ_self
abbrev BQ:=@PySem.F.slot_dict_valueiterator_next
abbrev BR:=@List.take_succ_cons
abbrev BS:=@List.length_singleton
abbrev BU:=@PySem.wpAny_mono
abbrev BV:=@PySem.W.kia_one
abbrev BW:=@Nat.ne_of_gt
abbrev BX:=@List.map_map
abbrev BY:=@PySem.wpAny_field
abbrev BZ:=@PySem.F.slot_dict_keyiterator_next
abbrev Ba:=@PySem.wpAny_Call_Name_kw
abbrev Bb:=@congrArg
abbrev Bc:=@Array.getElem?_eq_none
abbrev Bd:=@List.mem_append
abbrev Be:=@PySem.Paired.length
abbrev Bf:=@List.pairwise_iff_getElem
abbrev Bg:=@List.drop_eq_getElem_cons
abbrev Bh:=@PySem.wpAny_truthy_bool
abbrev Bi:=@PySem.wpAny_seqItems
abbrev Bj:=@Nat.lt_or_ge
abbrev Bk:=@Nat.lt_irrefl
abbrev Bl:=@PyProof.Rows.size_push'
abbrev Bm:=@PySem.Obj.data_mapFields
abbrev Bn:=@List.length_set
abbrev Bo:=@or_false
abbrev Bp:=@PySem.Around.under_plainId
abbrev Bq:=@PySem.codeAny_builtin
abbrev Br:=@PySem.Value.ref.injEq
abbrev Bs:=@Int.mul_nonneg
abbrev Bt:=@Array.getElem?_eq_some_iff
abbrev Bu:=@Array.getElem?_toList
abbrev Bv:=@PySem.wpAny_attempt
abbrev Bw:=@PySem.wpAny_isInstance
abbrev Bx:=@PySem.wpAny_forIn_list
abbrev By:=@Classical.byContradiction
abbrev Bz:=@PyProof.Rows.boot_isinstance
abbrev C0:=@List.sum_append
abbrev C1:=@PySem.wpAny_setField
abbrev C2:=@if_true
abbrev C3:=@Nat.le_succ
abbrev C4:=@List.mem_iff_getElem
abbrev C5:=@PySem.Heap.get?_update_self
abbrev C6:=@PySem.F.type_list_extend
abbrev C7:=@PySem.F.slot_list_extend
abbrev C8:=@PySem.mem_of_lookup
abbrev C9:=@Ne.symm
abbrev CA:=@List.lookup_cons
abbrev CB:=@PySem.wpAny_rule
abbrev CC:=@List.pairwise_cons
abbrev CD:=@List.foldl_cons
abbrev CF:=@PySem.wpAny_typeNameOfWhole_valiter
abbrev CG:=@PySem.wpAny_typeNameOfWhole_keyiter
abbrev CH:=@List.foldl_append
abbrev CI:=@PySem.wpAny_specialOf
abbrev CJ:=@PySem.wpAny_loadPart'
abbrev CK:=@Nat.pow_le_pow_right
abbrev CL:=@List.getElem?_set_ne
abbrev CM:=@List.getElem?_append_right
abbrev CN:=@Int.mul_le_mul
abbrev CO:=@Array.perm_iff_toList_perm
abbrev CP:=@Nat.succ_mul
abbrev CQ:=@List.getElem_mem
abbrev CS:=@List.flatMap_nil
abbrev CT:=@PySem.wpAny_dictEntries
abbrev CU:=@beq_eq_false_iff_ne
abbrev CV:=@PySem.F.slot_tuple_iterator_next
abbrev CW:=@PyProof.Rows.get?_update_seq
abbrev CY:=@List.forIn_cons
abbrev CZ:=@Bool.or_eq_true
abbrev Ca:=@PyProof.Rows.listUpdate_at
abbrev Cb:=@List.map_replicate
abbrev Cc:=@List.filter_append
abbrev Cd:=@PySem.F.called_set
abbrev Ce:=@Array.forIn_toList
abbrev Cf:=@List.length_eq_zero_iff
abbrev Cg:=@Int.le_refl
abbrev Ch:=@PySem.Calls.call_function_entry
abbrev Ci:=@PySem.wpAny_typeNameOf_valiter
abbrev Cj:=@PySem.wpAny_typeNameOf_keyiter
abbrev Ck:=@PySem.wpAny_newList
abbrev Cm:=@bne_self_eq_false
abbrev Cn:=@List.pairwise_map
abbrev Co:=@List.pairwise_lt_range
abbrev Cp:=@List.flatten_cons
abbrev Cq:=@Bool.not_false
abbrev Cr:=@PySem.wpAny_dictEpoch
abbrev Cs:=@PySem.wpAny_setField_rec
abbrev Ct:=@PySem.wpAny_pyIter_tuple
abbrev Cu:=@PySem.Calls.spliced_cons
abbrev Cv:=@List.take_append_drop
abbrev Cw:=@List.pairwise_flatMap
abbrev Cy:=@beq_iff_eq
abbrev Cz:=@PyProof.Rows.callWith_builtin1
abbrev D0:=@Nat.add_assoc
abbrev D1:=@PySem.wpAny_fieldsOf
abbrev D2:=@List.mem_of_mem_drop
abbrev D3:=@PySem.F.slot_tuple_hash
abbrev D4:=@List.cons.injEq
abbrev D5:=@PyProof.Rows.wpS_modify
abbrev D6:=@PySem.Obj.isFreed_of_fields
abbrev D7:=@PySem.wpAny_askSetting
abbrev D8:=@List.map_nil
abbrev D9:=@PySem.plainId_quiet
abbrev D':=@PySem.wpAny_of_eq
abbrev DA:=@Nat.mod_lt
abbrev DB:=@List.mem_filterMap
abbrev DC:=@Bool.and_false
abbrev DD:=@PySem.wpAny_passesOwn
abbrev DE:=@PySem.Heap.get?_update_ne
abbrev DF:=@PySem.wpAny_typeOf
abbrev DG:=@PySem.codeAny_mono
abbrev DH:=@PyProof.Rows.entry_list_sort
abbrev DI:=@PyProof.Rows.slot_list_sort
abbrev DJ:=@PyProof.Rows.args_list_sort
set_option pp.maxSteps 400
set_option Elab.async false
set_option linter.all false
set_option maxRecDepth 100000
set_option maxHeartbeats 4000000
set_option Elab.async false
set_option linter.all false
set_option maxRecDepth 100000
namespace L2
open PySem PySem.Spec PyProof.Rows
abbrev Key:=Sum Int Str
def hN_:Key->Value->Bool
 | .inl k,v=>Value.isInt k v
 | .inr x,v=>Value.isStrOf x v
def vd_ (w:World):Key->Int
 | .inl k=>hashInt k
 | .inr x=>hashStr w x
theorem aN_:∀{k:Key}{v:Value},hN_ k v=true->(∃i t,k=Sum.inl i/\v=Value.int i t)\/(∃x t,k=Sum.inr x/\v=Value.str x t)
 | .inl i,v,h=>by
  obtain⟨t,e⟩:=Value.isInt_shape (k:=i) (v:=v) h;exact .inl ⟨i,t,rfl,e⟩
 | .inr x,v,h=>by
  obtain⟨t,e⟩:=Value.isStrOf_shape (x:=x) (v:=v) h;exact .inr ⟨x,t,rfl,e⟩
theorem mG_ (i:Int) (t:Tok):hN_ (.inl i) (.int i t)=true:=by simp [hN_,Value.isInt]
theorem mF_ (x:Str) (t:Tok):hN_ (.inr x) (.str x t)=true:=by simp [hN_,Value.isStrOf]
theorem st_ (a b:Int):decide ((Sum.inl a:Key)=Sum.inl b)=(a==b):=by
 by_cases e:a=b
 .subst e;simp
 .have h:¬(Sum.inl a:Key)=Sum.inl b:=fun q=>e (Sum.inl.inj q);rw [Ak h];exact(CU.mpr e).symm
theorem sq_ (a b:Str):decide ((Sum.inr a:Key)=Sum.inr b)=decide (a=b):=by
 by_cases e:a=b
 .subst e;simp
 .have h:¬(Sum.inr a:Key)=Sum.inr b:=fun q=>e (Sum.inr.inj q);rw [Ak h,Ak e]
theorem ss_ (a:Int) (b:Str):decide ((Sum.inl a:Key)=Sum.inr b)=false:=Ak (fun q=>nomatch q)
theorem sr_ (a:Str) (b:Int):decide ((Sum.inr a:Key)=Sum.inl b)=false:=Ak (fun q=>nomatch q)
def aS_ (prog:Program) (w:World):PySem.KeyKind prog w Key where
 is:=hN_
 hash:=vd_ w
 inj:=fun v a b ha hb=>by
  rcases aN_ ha with⟨i,t,rfl,rfl⟩|⟨x,t,rfl,rfl⟩
  .rcases aN_ hb with⟨j,u,rfl,e⟩|⟨y,u,rfl,e⟩
   .injection e with e1 _;rw [e1]
   .exact nomatch e
  .rcases aN_ hb with⟨j,u,rfl,e⟩|⟨y,u,rfl,e⟩
   .exact nomatch e
   .injection e with e1 _;rw [e1]
 byValue:=fun k v h=>by
  rcases aN_ h with⟨i,t,rfl,rfl⟩|⟨x,t,rfl,rfl⟩<;>rfl
 pyHash:=fun hv h=>by
  rcases aN_ hv with⟨i,t,rfl,rfl⟩|⟨x,t,rfl,rfl⟩
  .exact wpAny_pyHash_int h
  .exact wpAny_pyHash_str h
 eqBool:=fun hu hv h=>by
  rcases aN_ hu with⟨i,t,rfl,rfl⟩|⟨x,t,rfl,rfl⟩
  .rcases aN_ hv with⟨j,u,rfl,rfl⟩|⟨y,u,rfl,rfl⟩
   .rw [st_] at h;exact wpAny_eqBool_int h
   .rw [ss_] at h;exact SeqAt.EqAt.int_str i t y u _ _ _ _ h
  .rcases aN_ hv with⟨j,u,rfl,rfl⟩|⟨y,u,rfl,rfl⟩
   .rw [sr_] at h;exact SeqAt.EqAt.str_int x t j u _ _ _ _ h
   .rw [sq_] at h;exact wpAny_eqBool_str h
 «strs»:=fun k x t v h=>by
  rcases aN_ h with⟨i,u,rfl,e⟩|⟨y,u,rfl,e⟩
  .exact nomatch e
  .injection e with e1 _;subst e1;cases v<;>rfl
theorem i4_ (prog:Program) (w:World) (i:Int) (t:Tok):(aS_ prog w).is (.inl i) (.int i t)=true:=mG_ i t
theorem i3_ (prog:Program) (w:World) (x:Str) (t:Tok):(aS_ prog w).is (.inr x) (.str x t)=true:=mF_ x t
end L2
namespace L2
open PySem PySem.Spec PyProof.Rows
inductive V where
 |non|bl (b:Bool)|int (i:Int)|str (x:Str)|byt (b:Array UInt8)|flt (b:UInt64)|ref (a:Addr)|ty (n:String)
 deriving DecidableEq
def aZ_:V->Value->Prop
 | .non,u=>u=Value.none
 | .bl b,u=>u=Value.bool b
 | .int i,u=>∃t,u=Value.int i t
 | .str x,u=>∃t,u=Value.str x t
 | .byt b,u=>∃t,u=Value.bytes b t
 | .flt b,u=>∃t,u=Value.float b t
 | .ref a,u=>u=Value.ref a
 | .ty n,u=>u=Value.type n
abbrev aV_:List V->List Value->Prop:=Paired aZ_
theorem aV_.length {xs:List V}{us:List Value} (r:aV_ xs us):xs.length=us.length:=Be r
theorem aV_.get:∀{xs:List V}{us:List Value}{i:Nat}{x:V},aV_ xs us->xs[i]? =some x->∃u,us[i]? =some u/\aZ_ x u
 |_,_,_,_, .nil,e=>by simp at e
 |_,_,0,_, .cons r _,e=>by simp at e;subst e;exact⟨_,rfl,r⟩
 |_,_,i+1,x, .cons _ t,e=>by
  obtain⟨u,h1,h2⟩:=aV_.get (i:=i) (x:=x) t (by simpa using e);exact⟨u,by simpa using h1,h2⟩
theorem aV_.set {x:V}{u:Value} (r:aZ_ x u):∀{xs:List V}{us:List Value} (i:Nat),aV_ xs us->aV_ (xs.set i x) (us.set i u)
 |_,_,_, .nil=> .nil
 |_,_,0, .cons _ t=> .cons r t
 |_,_,i+1, .cons q t=> .cons q (aV_.set r i t)
theorem aV_.append:∀{xs ys:List V}{us ws:List Value},aV_ xs us->aV_ ys ws->aV_ (xs++ys) (us++ws)
 |_,_,_,_, .nil,s=>s
 |_,_,_,_, .cons r t,s=> .cons r (aV_.append t s)
theorem aV_.take:∀{xs:List V}{us:List Value} (n:Nat),aV_ xs us->aV_ (xs.take n) (us.take n)
 |_,_,0,_=> .nil
 |_,_,_+1, .nil=> .nil
 |_,_,n+1, .cons r t=> .cons r (aV_.take n t)
theorem aV_.drop:∀{xs:List V}{us:List Value} (n:Nat),aV_ xs us->aV_ (xs.drop n) (us.drop n)
 |_,_,0,r=>r
 |_,_,_+1, .nil=> .nil
 |_,_,n+1, .cons _ t=>aV_.drop n t
def jo_:Option V->Option Value->Prop
 |some v,some u=>aZ_ v u
 |none,none=>True
 |_,_=>False
def KV {κ:Type}:List (κ×V)->List (κ×Value)->Prop:=Paired fun(p:κ×V) (q:κ×Value)=>p.1=q.1/\aZ_ p.2 q.2
def kV:Key->V
 | .inl i=> .int i
 | .inr x=> .str x
inductive HO where
  |lst (xs:List V)
  |tup (xs:List V)
  |dK (kvs:List (Key×V))|dT (kvs:List (List Key×V))
  |set (S:Int->Bool) (n:Nat)
  |ins (C dx:Addr) (fs:List (Str×V))
  |own (x:Addr)
  |xd (fs:List (Str×V))
  |met (f x:Addr)
  |rng (lo hi:Int)
  |frz (o:Obj) (u:HO)
  |tbl (ps:Array Value)
  |ext (φ:Heap->Prop)
abbrev Hp:=Addr->Option HO
def upd (H:Hp) (a:Addr) (o:HO):Hp:=fun b=>if b=a then some o else H b
theorem ag_ {H:Hp}{a:Addr}{o:HO}:upd H a o a=some o:=by unfold upd;rw [A7 rfl]
theorem ak_ {H:Hp}{a b:Addr}{o:HO} (h:b≠a):upd H a o b=H b:=by unfold upd;rw [A5 h]
theorem pJ_ {H:Hp}{a:Addr}{o u:HO}:upd (upd H a o) a u=upd H a u:=by
 funext b;unfold upd;split<;>rfl
theorem qs_ {H:Hp}{a b:Addr}{o u:HO} (h:H a=some o) (h':H b=some u) (d:o≠u):a≠b:=by
 intro e;subst e;rw [h] at h';exact d (Ae h')
theorem ay_ {H:Hp}{a b:Addr}{o:HO} (h:H a=some o) (h':H b=none):a≠b:=by
 intro e;subst e;rw [h] at h';cases h'
section
variable (P:Program) (w:World)
def aC_ (H:Hp) (h:Heap) (a:Addr):HO->Prop
 | .lst xs=>xs.length<=sizeLine/\∃(its:List Value) (n:Nat),aV_ xs its/\h.get? a=some {cls:= .type "list",data:= .seq its.toArray n}
 | .tup xs=>xs.length<=sizeLine/\∃its:List Value,aV_ xs its/\IsTup h a its.toArray
 | .dK kvs=>kvs.length<=sizeLine/\(a==sysModules)=false/\∃vs,KV kvs vs/\h.DictOf (aS_ P w) a vs
 | .dT kvs=>kvs.length<=sizeLine/\(a==sysModules)=false/\∃xs:List (List Key×Addr×Value),
   Paired (fun(p:List Key×V) (q:List Key×Addr×Value)=>p.1=q.1/\H q.2.1=some (.tup (p.1.map kV))/\aZ_ p.2 q.2.2) kvs xs/\
   ∃o es ep,h.get? a=some o/\o.ExactDict/\o.data= .dict es ep/\es.toList=xs.map (entryOfKey (tupleKind (aS_ P w)))/\(xs.map (·.1)).Nodup
 | .set S n=>h.SetOf (intKind P w) a S n
 | .ins C dx fs=>H dx=some (.own a)/\fs.length<=1000/\dx≠a/\h.get? a=some (W.instObj C dx)/\
   ∃mA,h.Ns1 dx mA/\(∀f,jo_ (fs.lookup f) (mA f))/\PySem.Within mA (fs.map (·.1))
 | .own _=>∃o,h.get? a=some o
 | .xd fs=>∃mA,h.Ns1 a mA/\∀f,jo_ (fs.lookup f) (mA f)
 | .rng lo hi=>∃t u v,h.get? a=some {cls:= .type "range",data:= .fields #[.int lo t, .int hi u, .int 1 v]}
 | .frz o u=>h.get? a=some o/\aC_ H h a u
 | .tbl ps=>h.get? a=some {cls:= .none,data:= .fields ps}
 | .met f x=>h.get? a=some (W.methodObj (.ref f) (.ref x))
 | .ext φ=>φ h/\(∃o,h.get? a=some o)/\∀h1 h2:Heap,φ h1->(∀o,h1.get? a=some o->h2.get? a=some o)->φ h2
def HOk (H:Hp) (h:Heap):Prop:=∀a o,H a=some o->aC_ P w H h a o
end
section
variable {P:Program}{w:World}{H H':Hp}{h h':Heap}{a:Addr}{o:HO}
theorem aC_.lt (x:aC_ P w H h a o):a<h.objs.size:=by
 cases o with
 |lst xs=>obtain⟨_,_,_,_,e⟩:=x;exact AI e
 |tup xs=>obtain⟨_,_,_,p⟩:=x;exact p.lt
 |dK kvs=>obtain⟨_,_,_,_,o,_,_,e,_⟩:=x;exact AI e
 |dT kvs=>obtain⟨_,_,_,_,o,_,_,e,_⟩:=x;exact AI e
 |set S n=>obtain⟨o,_,_,_,e,_⟩:=x;exact AI e
 |ins C dx fs=>obtain⟨_,_,_,e,_⟩:=x;exact AI e
 |own y=>obtain⟨_,e⟩:=x;exact AI e
 |xd fs=>obtain⟨_,⟨_,_,_,e,_⟩,_⟩:=x;exact AI e
 |rng lo hi=>obtain⟨_,_,_,e⟩:=x;exact AI e
 |frz ob u=>obtain⟨e,_⟩:=x;exact AI e
 |tbl ps=>exact AI (show h.get? a=some _ from x)
 |met f y=>exact AI (show h.get? a=some _ from x)
 |ext φ=>obtain⟨_,⟨_,e⟩,_⟩:=x;exact AI e
theorem Paired.mapP {α β:Type}{F G:α->β->Prop}:∀{l₁:List α}{l₂:List β},Paired F l₁ l₂->(∀a b,F a b->G a b)->Paired G l₁ l₂
 |_,_, .nil,_=> .nil
 |_,_, .cons r t,f=> .cons (f _ _ r) (Paired.mapP t f)
theorem aC_.stay (x:aC_ P w H h a o) (k:∀b u,(b=a\/H b=some (.own a))->h.get? b=some u->h'.get? b=some u)
  (ho:∀b,H b=some (.own a)->H' b=some (.own a)) (ht:∀b xs,H b=some (.tup xs)->H' b=some (.tup xs)):aC_ P w H' h' a o:=by
 induction o with
 |lst xs=>obtain⟨z,its,n,r,e⟩:=x;exact⟨z,its,n,r,k _ _ (.inl rfl) e⟩
 |tup xs=>obtain⟨z,its,r,ob,e,c⟩:=x;exact⟨z,its,r,ob,k _ _ (.inl rfl) e,c⟩
 |dK kvs=>obtain⟨z,y,vs,r,ob,es,ep,e,c⟩:=x;exact⟨z,y,vs,r,ob,es,ep,k _ _ (.inl rfl) e,c⟩
 |dT kvs=>
  obtain⟨z,y,xs,r,ob,es,ep,e,c⟩:=x;exact⟨z,y,xs,Paired.mapP r fun p q z=>⟨z.1,ht _ _ z.2.1,z.2.2⟩,ob,es,ep,k _ _ (.inl rfl) e,c⟩
 |set S n=>obtain⟨ob,es,ep,t,e,c⟩:=x;exact⟨ob,es,ep,t,k _ _ (.inl rfl) e,c⟩
 |ins C dx fs=>
  obtain⟨d,z,ne,e,mA,⟨od,es,ep,e2,c⟩,r⟩:=x;exact⟨ho _ d,z,ne,k _ _ (.inl rfl) e,mA,⟨od,es,ep,k _ _ (.inr d) e2,c⟩,r⟩
 |own y=>obtain⟨ob,e⟩:=x;exact⟨ob,k _ _ (.inl rfl) e⟩
 |xd fs=>obtain⟨mA,⟨od,es,ep,e,c⟩,r⟩:=x;exact⟨mA,⟨od,es,ep,k _ _ (.inl rfl) e,c⟩,r⟩
 |rng lo hi=>obtain⟨t,u,v,e⟩:=x;exact⟨t,u,v,k _ _ (.inl rfl) e⟩
 |frz ob u ih=>obtain⟨e,q⟩:=x;exact⟨k _ _ (.inl rfl) e,ih q⟩
 |tbl ps=>
  have e:h.get? a=some {cls:= .none,data:= .fields ps}:=x;show h'.get? a=some {cls:= .none,data:= .fields ps};exact k a _ (.inl rfl) e
 |met f y=>
  have e:h.get? a=some (W.methodObj (.ref f) (.ref y)):=x;show h'.get? a=some (W.methodObj (.ref f) (.ref y));exact k a _ (.inl rfl) e
 |ext φ=>obtain⟨p,⟨o,e⟩,st⟩:=x;exact⟨st _ _ p fun o q=>k _ _ (.inl rfl) q,⟨o,k _ _ (.inl rfl) e⟩,st⟩
theorem HOk.lt (x:HOk P w H h) (e:H a=some o):a<h.objs.size:=(x a o e).lt
theorem HOk.fresh (x:HOk P w H h) (e:h.objs.size<=a):H a=none:=by
 cases q:H a with
 |none=>rfl
 |some u=>exact absurd (Ag (x.lt q) e) (Bk _)
theorem HOk.kept (x:HOk P w H h) (k:∀b u,h.get? b=some u->h'.get? b=some u):HOk P w H h':=fun a o e=>
 (x a o e).stay (fun b u _ q=>k b u q) (fun _ q=>q) fun _ _ q=>q
theorem HOk.laid (x:HOk P w H h) (k:∀b u,h.get? b=some u->h'.get? b=some u) (hp:h.objs.size<=a) (new:aC_ P w (upd H a o) h' a o):HOk P w (upd H a o) h':=fun b u e=>by
 have hn:=x.fresh hp;by_cases hb:b=a
 .subst hb;rw [ag_] at e;cases e;exact new
 .rw [ak_ hb] at e;exact(x b u e).stay (fun c v _ q=>k c v q) (fun c q=>by rw [ak_ (ay_ q hn)];exact q) fun c xs q=>by rw [ak_ (ay_ q hn)];exact q
end
def Rd (H:Hp) (a:Addr) (u:HO):Prop:=H a=some u\/∃o,H a=some (.frz o u)
theorem Rd.ok {P:Program}{w:World}{H:Hp}{h:Heap}{a:Addr}{u:HO} (r:Rd H a u) (x:HOk P w H h):aC_ P w H h a u:=by
 rcases r with r|⟨o,r⟩
 .exact x a u r
 .obtain⟨_,q⟩:=x a _ r;exact q
def Mut:Option HO->Prop
 |some (.lst _)=>True
 |some (.dK _)=>True
 |some (.dT _)=>True
 |some (.set _ _)=>True
 |some (.ins _ _ _)=>True
 |some (.ext _)=>True
 |_=>False
section
variable {P:Program}{w:World}{H:Hp}{h h':Heap}{x e:Addr}{o':HO}
theorem HOk.write (ok:HOk P w H h) (mu:Mut (H x)) (he:e=x\/H e=some (.own x)) (k:∀b u,b≠e->h.get? b=some u->h'.get? b=some u) (heo:∃u,h'.get? e=some u)
  (new:aC_ P w (upd H x o') h' x o'):HOk P w (upd H x o') h':=fun b u q=>by
 have nown:∀c y,H c=some (.own y)->c≠x:=fun c y r z=>by subst z;rw [r] at mu;exact mu
 have ntup:∀c xs,H c=some (.tup xs)->c≠x:=fun c xs r z=>by subst z;rw [r] at mu;exact mu
 by_cases hb:b=x
 .subst hb;rw [ag_] at q;cases q;exact new
 .rw [ak_ hb] at q;by_cases hbe:b=e
  .have q':H b=some (.own x):=by
    rcases he with z|z
    .exact absurd (hbe.trans z) hb
    .rw [hbe];exact z
   rw [q] at q';cases q';obtain⟨v,hv⟩:=heo;exact⟨v,by rw [hbe];exact hv⟩
  .refine(ok b u q).stay (fun c v hc r=>k c v ?_ r) (fun c r=>by rw [ak_ (nown c b r)];exact r) fun c xs r=>by rw [ak_ (ntup c xs r)];exact r
   rcases hc with rfl|hc
   .exact hbe
   .rintro rfl;rcases he with z|z
    .exact nown c b hc z
    .rw [hc] at z;cases z;exact hb rfl
end
structure Un (fs ex:List Addr) (H H':Hp) (h h':Heap):Prop where
 keep:∀b o,h.get? b=some o->H b=none->b∉fs->b∉ex->h'.get? b=some o
 slot:∀b o,h.get? b=some o->H b=none->b∈fs->b∉ex->∃sl,h'.get? b=some {o with slots:=sl}
 free:∀b o,h.get? b=some o->H b=none->b∉ex->H' b=none
 there:∀b o,h.get? b=some o->b∉ex->∃o',h'.get? b=some o'
 tups:∀b xs,H b=some (.tup xs)->H' b=some (.tup xs)
 frzs:∀b o u,H b=some (.frz o u)->H' b=some (.frz o u)
 tbls:∀b ps,H b=some (.tbl ps)->∃more,H' b=some (.tbl (ps++more))
section
variable {fs fs' ex ex':List Addr}{H H1 H2:Hp}{h h1 h2 h':Heap}{a x e:Addr}{o:HO}
theorem Un.any (u:Un fs ex H H1 h h1) {b:Addr}{ob:Obj} (q:h.get? b=some ob) (n:H b=none) (hx:b∉ex):∃sl,h1.get? b=some {ob with slots:=sl}:=by
 by_cases hb:b∈fs
 .exact u.slot b ob q n hb hx
 .exact⟨ob.slots,u.keep b ob q n hb hx⟩
theorem Un.kept (k:∀b u,h.get? b=some u->h'.get? b=some u):Un fs ex H H h h':=
 ⟨fun b ob q _ _ _=>k b ob q,fun b ob q _ _ _=>⟨ob.slots,k b ob q⟩,fun _ _ _ n _=>n,fun b ob q _=>⟨ob,k b ob q⟩,fun _ _ q=>q,fun _ _ _ q=>q,fun _ ps q=>⟨#[],by rw [q];simp⟩⟩
theorem Un.refl:Un fs ex H H h h:=Un.kept fun _ _ q=>q
theorem Un.laid (k:∀b u,h.get? b=some u->h'.get? b=some u) (hp:h.objs.size<=a) (hn:H a=none):Un fs ex H (upd H a o) h h' where
 keep:=fun b u q _ _ _=>k b u q
 slot:=fun b u q _ _ _=>⟨u.slots,k b u q⟩
 free:=fun b u q n _=>by rw [ak_ (AL (Ag (AI q) hp))];exact n
 there:=fun b u q _=>⟨u,k b u q⟩
 tups:=fun b xs q=>by rw [ak_ (ay_ q hn)];exact q
 frzs:=fun b u xs q=>by rw [ak_ (ay_ q hn)];exact q
 tbls:=fun b ps q=>⟨#[],by rw [ak_ (ay_ q hn),q];simp⟩
theorem Un.write (mu:Mut (H x)) (he:e=x\/H e=some (.own x)) (k:∀b u,b≠e->h.get? b=some u->h'.get? b=some u) (heo:∃u,h'.get? e=some u):Un fs ex H (upd H x o) h h':=by
 have hx:∀b,H b=none->b≠x:=fun b n z=>by subst z;rw [n] at mu;exact mu
 have hb:∀b,H b=none->b≠e:=fun b n z=>by
  subst z;rcases he with r|r
  .exact hx b n r
  .rw [n] at r;cases r
 have hm:∀b u,H b=some u->¬Mut (some u)->b≠x:=fun b u q nm z=>by subst z;rw [q] at mu;exact nm mu
 refine⟨fun b u q n _ _=>k b u (hb b n) q,fun b u q n _ _=>⟨u.slots,k b u (hb b n) q⟩,fun b u q n _=>by rw [ak_ (hx b n)];exact n,fun b u q _=> ?_,
  fun b xs q=>by rw [ak_ (hm b _ q fun z=>z)];exact q,fun b u xs q=>by rw [ak_ (hm b _ q fun z=>z)];exact q,fun b ps q=>⟨#[],by rw [ak_ (hm b _ q fun z=>z),q];simp⟩⟩
 by_cases hbe:b=e
 .subst hbe;exact heo
 .exact⟨u,k b u hbe q⟩
end
def trk (h:Heap) (H:Hp):List Addr:=(List.range h.objs.size).filter fun a=>(H a).isSome
def oA_ (h:Heap) (H:Hp):Heap:=W.hideAll h (trk h H)
theorem mT_ (h:Heap) (H:Hp):(oA_ h H).objs.size=h.objs.size:=W.hideAll_size _ _
theorem oz_ {h:Heap}{H:Hp}{b:Addr}{o:Obj} (e:h.get? b=some o) (n:H b=none):(oA_ h H).get? b=some o:=
 W.hideAll_get _ e fun hm=>by
  have q:(H b).isSome=true:=(List.mem_filter.mp hm).2;rw [n] at q;simp at q
theorem qn_ {h:Heap}{H:Hp}{b:Addr}{o:Obj} (e:(oA_ h H).get? b=some o):h.get? b=some o/\H b=none:=by
 have e':h.get? b=some o:=W.of_hideAll (trk h H) e;refine⟨e', ?_⟩;cases q:H b with
 |none=>rfl
 |some x=>
  have hm:b∈trk h H:=List.mem_filter.mpr ⟨AV.mpr (AI e'),by simp [q]⟩;have z:(oA_ h H).get? b=none:=W.hideAll_none (trk h H) hm;rw [z] at e;cases e
def q3_ (g h:Heap) (L:Addr):List (Addr×Obj):=(List.range h.objs.size).filterMap fun a=>if a=L\/(g.get? a).isSome=true then none else(h.get? a).map fun o=>(a,o)
def cl_ (g h:Heap) (L d:Addr):List (Addr×Obj):=(q3_ g h L).filter fun p=>decide (p.1≠d)
end L2
namespace L2
open PySem PySem.Spec PyProof.Rows
structure Mod (K:W.Frag) (mg:Str->Option Value) (base:Heap):Prop where
 kin:K.In base
 glob:base.Ns mainGlobals mg
 blt:∃mb,base.Ns builtinsNs mb/\∀x:Str,x≠"__name__"->mb x=bootBuiltins x
 nolimit:base.NoLimit
structure Cx where
 prog:Program
 w:World
 K:W.Frag
 mg:Str->Option Value
 base:Heap
 A:Around
 N:List Str
 s₀:Shared
 H₀:Hp
 env:Env
 outer:List Env
 stack:List Env
 ex:List Addr
 fn:Str->Bool
 calm:Bool
 pn:List (Addr×Obj)
 xe:Value->Shared->Prop
def frs (l:List Env):List Addr:=l.filterMap (·.frame)
abbrev Cx.fs (X:Cx):List Addr:=frs X.outer
def Vis (sc:Scope) (x:Str):Prop:=sc.names.lookup x=some .local\/sc.names.lookup x=some .cell\/sc.names.lookup x=some .free
def Loc (sc:Scope) (x:Str):Prop:=sc.names.lookup x=some .local\/sc.names.lookup x=some .cell
def vj_ (env:Env) (h:Heap) (m:Str->Option Value) (x:Str) (u:Value):Prop:=
 (env.kindOf x=some .local/\m x=some u)\/((env.kindOf x=some .cell\/env.kindOf x=some .free)/\∃c,env.cells.lookup x=some c/\h.IsCell c (some u))
structure Cx.Ok (X:Cx):Prop where
 mod:Mod X.K X.mg X.base
 kind:X.env.scope.kind= .function
 glob:X.env.globals=mainGlobals
 blt:X.env.builtins=builtinsNs
 above:X.s₀.heap.objs.size<=X.env.locals
 inj:∀x y c,X.env.cells.lookup x=some c->X.env.cells.lookup y=some c->x=y
 has:∀x,(X.env.kindOf x=some .cell\/X.env.kindOf x=some .free)->∃c,X.env.cells.lookup x=some c
 cab:∀x c,X.fn x=true->X.env.cells.lookup x=some c->X.s₀.heap.objs.size<=c
 hd:X.calm=true->X.A.handled=none
 frames:X.A.frames=some X.stack
 stk:X.stack=X.outer\/(X.stack=X.env::X.outer/\X.env.frame=some X.env.locals)
 exf:∀b∈X.ex,b≠X.env.locals/\∀x c,X.env.cells.lookup x=some c->c≠b
 bs:∀b o,X.base.get? b=some o->X.s₀.heap.get? b=some o/\X.H₀ b=none
 bsz:X.base.objs.size<=X.s₀.heap.objs.size
 noex:∀b o,X.base.get? b=some o->b∉X.ex
 exfs:∀b∈X.ex,b∉X.fs
 funs:X.s₀.heap.FunFrames X.base X.outer
 frf:∀b∈X.fs,X.H₀ b=none
structure Inv (X:Cx) (pins:List (Addr×Obj)) (σ:List (Option V)) (H:Hp) (s:Shared):Prop where
 ok:X.Ok
 os:s.os=X.s₀.os
 bare:AllBare s.gens
 base:Un X.fs X.ex X.H₀ H X.s₀.heap s.heap
 loc:∃m,s.heap.Ns X.env.locals m/\∀(i:Nat) (x:Str) (v:V),X.N[i]? =some x->σ[i]? =some (some v)->Vis X.env.scope x->∃u,aZ_ v u/\vj_ X.env s.heap m x u
 cell:∀x c,X.env.cells.lookup x=some c->∃v,s.heap.IsCell c v
 free:H X.env.locals=none
 freeC:∀x c,X.env.cells.lookup x=some c->H c=none
 pin:∀p∈X.pn++pins,s.heap.get? p.1=some p.2/\H p.1=none/\p.1≠X.env.locals/\p.1∉X.fs/\∀v,p.2.data≠ .cell v
 hok:HOk X.prog X.w H s.heap
 len:σ.length=X.N.length
section
variable {X:Cx}{pins:List (Addr×Obj)}{σ:List (Option V)}{H H':Hp}{s:Shared}{h':Heap}
theorem Cx.Ok.nofr (ok:X.Ok) {b:Addr}{o:Obj} (e:X.base.get? b=some o):b∉X.fs:=fun hb=>by
 have:=(ok.funs.mem hb).1;rw [e] at this;cases this
theorem Inv.bs (I:Inv X pins σ H s):∀b o,X.base.get? b=some o->s.heap.get? b=some o/\H b=none:=fun b o e=>
 ⟨I.base.keep b o (I.ok.bs b o e).1 (I.ok.bs b o e).2 (I.ok.nofr e) (I.ok.noex b o e),I.base.free b o (I.ok.bs b o e).1 (I.ok.bs b o e).2 (I.ok.noex b o e)⟩
theorem Inv.bk (I:Inv X pins σ H s):∀b o,X.base.get? b=some o->s.heap.get? b=some o:=fun b o e=>(I.bs b o e).1
theorem Inv.mod (I:Inv X pins σ H s):Mod X.K X.mg X.base:=I.ok.mod
theorem Inv.kIn (I:Inv X pins σ H s):X.K.In s.heap:=I.ok.mod.kin.keeps I.bk
theorem Inv.lt (I:Inv X pins σ H s):X.env.locals<s.heap.objs.size:=let ⟨_,hn,_⟩:=I.loc;hn.lt
theorem Inv.sz (I:Inv X pins σ H s):X.s₀.heap.objs.size<=s.heap.objs.size:=B6 I.ok.above (An I.lt)
theorem Inv.nofs (I:Inv X pins σ H s) {a:Addr} (h:s.heap.objs.size<=a):a∉X.fs:=fun hb=>by
 obtain⟨_,o,ho,_⟩:=I.ok.funs.mem hb;exact absurd (Ag (AI ho) (B6 I.sz h)) (Bk _)
theorem Inv.cne (I:Inv X pins σ H s):∀x c,X.env.cells.lookup x=some c->c≠X.env.locals:=fun x c e z=>by
 obtain⟨v,o,ho,hd⟩:=I.cell x c e;obtain⟨m,⟨o',es,ep,ho',hd',_⟩,_⟩:=I.loc;rw [z,ho'] at ho;cases ho;rw [hd'] at hd;cases hd
theorem Inv.funs (I:Inv X pins σ H s):s.heap.FunFrames X.base X.outer:=by
 have all:∀(l:List Env),(∀b∈frs l,b∈X.fs)->X.s₀.heap.FunFrames X.base l->s.heap.FunFrames X.base l:=by
  intro l;induction l with
  |nil=>intro _ _;trivial
  |cons env r ih=>
   intro hs hl;obtain⟨hk,⟨L,o,hf,hn,ho,hd⟩,hr⟩:=hl;have hL:L∈X.fs:=hs L (by unfold frs;rw [List.filterMap_cons,hf];exact AX);obtain⟨sl,e⟩:=I.base.slot L o ho (I.ok.frf L hL) hL fun z=>I.ok.exfs L z hL;exact⟨hk,⟨L,_,hf,hn,e,hd⟩,ih (fun b hb=>hs b (by unfold frs;rw [List.filterMap_cons,hf];exact AR _ hb)) hr⟩
 exact all X.outer (fun _ hb=>hb) I.ok.funs
theorem Inv.stack (I:Inv X pins σ H s):s.heap.FunFrames X.base X.stack:=by
 rcases I.ok.stk with e|⟨e,hf⟩
 .rw [e];exact I.funs
 .rw [e];obtain⟨m,hn,_⟩:=I.loc;refine .cons (by rw [I.ok.kind];decide) hf hn ?_ I.funs;exact Heap.get?_none_of_le (B6 I.ok.bsz I.ok.above)
theorem Inv.stkSub (I:Inv X pins σ H s):∀b∈frs X.stack,b∈X.env.locals::X.fs:=fun b hb=>by
 rcases I.ok.stk with e|⟨e,hf⟩
 .rw [e] at hb;exact AR _ hb
 .rw [e] at hb;unfold frs at hb;rw [List.filterMap_cons,hf] at hb;exact hb
theorem Inv.stkFree (I:Inv X pins σ H s):∀b∈frs X.stack,H b=none:=fun b hb=>by
 rcases AJ.mp (I.stkSub b hb) with e|hb
 .rw [e];exact I.free
 .obtain⟨_,o,ho,_⟩:=I.ok.funs.mem hb;exact I.base.free b o ho (I.ok.frf b hb) fun z=>I.ok.exfs b z hb
theorem Inv.step {g':Array GenState}{t':Nat}{d':Drawn}{ch:List Addr} (I:Inv X pins σ H s)
  (hch:∀b∈ch,(b∈X.ex\/X.s₀.heap.objs.size<=b)/\b≠X.env.locals/\(∀x c,X.env.cells.lookup x=some c->c≠b)/\∀p∈X.pn++pins,p.1≠b)
  (keep:∀b o,b≠X.env.locals->b∉X.fs->b∉ch->s.heap.get? b=some o->H b=none->h'.get? b=some o)
  (slot:∀b o,b≠X.env.locals->b∈X.fs->b∉ch->s.heap.get? b=some o->H b=none->∃sl,h'.get? b=some {o with slots:=sl}) (free:∀b o,b∉ch->s.heap.get? b=some o->H b=none->H' b=none)
  (there:∀b o,b∉ch->s.heap.get? b=some o->∃o',h'.get? b=some o')
  (tups:∀b xs,H b=some (.tup xs)->H' b=some (.tup xs)) (frzs:∀b o u,H b=some (.frz o u)->H' b=some (.frz o u)) (tbls:∀b ps,H b=some (.tbl ps)->∃more,H' b=some (.tbl (ps++more)))
  (ns:∀m,s.heap.Ns X.env.locals m->h'.Ns X.env.locals m) (hok:HOk X.prog X.w H' h') (hg:AllBare g'):
  Inv X pins σ H' {s with heap:=h',gens:=g',drawn:=d',toks:=t'}:=by
 have neL:∀b o,X.s₀.heap.get? b=some o->b≠X.env.locals:=fun b o e=>AL (Ag (AI e) I.ok.above);have neC:∀b o,X.s₀.heap.get? b=some o->b∉X.ex->b∉ch:=fun b o e hx hb=>by
  rcases(hch b hb).1 with z|z
  .exact hx z
  .exact absurd (Ag (AI e) z) (Bk _)
 have cellK:∀x c,X.env.cells.lookup x=some c->∀v,s.heap.IsCell c v->h'.IsCell c v:=fun x c e v ⟨o,ho,hd⟩=>by
  have nch:c∉ch:=fun z=>(hch c z).2.2.1 x c e rfl;by_cases hc:c∈X.fs
  .obtain⟨sl,q⟩:=slot c o (I.cne x c e) hc nch ho (I.freeC x c e);exact⟨_,q,hd⟩
  .exact⟨o,keep c o (I.cne x c e) hc nch ho (I.freeC x c e),hd⟩
 refine⟨I.ok,I.os,hg,⟨fun b o e n hb hx=> ?_,fun b o e n hb hx=> ?_,fun b o e n hx=> ?_,fun b o e hx=> ?_,fun b xs e=>tups b xs (I.base.tups b xs e),fun b o xs e=>frzs b o xs (I.base.frzs b o xs e),fun b ps e=> ?_⟩, ?_,fun x c e=> ?_, ?_,fun x c e=> ?_,fun p hp=> ?_,hok,I.len⟩
 .exact keep b o (neL b o e) hb (neC b o e hx) (I.base.keep b o e n hb hx) (I.base.free b o e n hx)
 .obtain⟨sl,e1⟩:=I.base.slot b o e n hb hx;obtain⟨sl',e2⟩:=slot b _ (neL b o e) hb (neC b o e hx) e1 (I.base.free b o e n hx);exact⟨sl',e2⟩
 .obtain⟨o',e1⟩:=I.base.there b o e hx;exact free b o' (neC b o e hx) e1 (I.base.free b o e n hx)
 .obtain⟨o',e1⟩:=I.base.there b o e hx;exact there b o' (neC b o e hx) e1
 .obtain⟨m1,e1⟩:=I.base.tbls b ps e;obtain⟨m2,e2⟩:=tbls b _ e1;exact⟨m1++m2,by rw [e2,Array.append_assoc]⟩
 .obtain⟨m,hn,hl⟩:=I.loc;refine⟨m,ns m hn,fun i x v e1 e2 e3=> ?_⟩;obtain⟨u,r,l⟩:=hl i x v e1 e2 e3;refine⟨u,r, ?_⟩;rcases l with l|⟨k,c,e,z⟩
  .exact .inl l
  .exact .inr ⟨k,c,e,cellK x c e _ z⟩
 .obtain⟨v,z⟩:=I.cell x c e;exact⟨v,cellK x c e v z⟩
 .obtain⟨m,⟨o,_,_,ho,_⟩,_⟩:=I.loc;exact free _ o (fun z=>(hch _ z).2.1 rfl) ho I.free
 .obtain⟨v,o,ho,hd⟩:=I.cell x c e;exact free c o (fun z=>(hch c z).2.2.1 x c e rfl) ho (I.freeC x c e)
 .obtain⟨e,n,ne,nf,d⟩:=I.pin p hp;have nch:p.1∉ch:=fun z=>(hch p.1 z).2.2.2 p hp rfl;exact⟨keep p.1 p.2 ne nf nch e n,free p.1 p.2 nch e n,ne,nf,d⟩
theorem Inv.un {t':Nat} (I:Inv X pins σ H s) (u:Un X.fs [] H H' s.heap h') (hok:HOk X.prog X.w H' h'):Inv X pins σ H' {s with heap:=h',toks:=t'}:=by
 obtain⟨m,⟨o,es,ep,ho,r⟩,_⟩:=id I.loc;obtain⟨sl,hL⟩:=u.any ho I.free (by simp);exact I.step (g':=s.gens) (d':=s.drawn) (ch:=[]) (fun _ z=>nomatch z) (fun b o _ hb _ e n=>u.keep b o e n hb (by simp)) (fun b o _ hb _ e n=>u.slot b o e n hb (by simp)) (fun b o _ e n=>u.free b o e n (by simp)) (fun b o _ e=>u.there b o e (by simp)) u.tups u.frzs u.tbls (fun m' hm=>by
  obtain⟨o',es',ep',ho',r'⟩:=hm;rw [ho] at ho';cases ho';exact⟨_,es',ep',hL,r'⟩) hok I.bare
theorem Inv.call {g':Array GenState}{t':Nat}{d':Drawn}{ch:List Addr} (I:Inv X pins σ H s) (u:Un (frs X.stack) ch H H' s.heap h') (hok:HOk X.prog X.w H' h') (hg:AllBare g')
  (hch:∀b∈ch,(b∈X.ex\/X.s₀.heap.objs.size<=b)/\b≠X.env.locals/\(∀x c,X.env.cells.lookup x=some c->c≠b)/\∀p∈X.pn++pins,p.1≠b):
  Inv X pins σ H' {s with heap:=h',gens:=g',drawn:=d',toks:=t'}:=by
 obtain⟨m,⟨o,es,ep,ho,r⟩,_⟩:=id I.loc;obtain⟨sl,hL⟩:=u.any ho I.free fun z=>(hch _ z).2.1 rfl;exact I.step (ch:=ch) hch (fun b o hL hb hc e n=>u.keep b o e n (fun z=>(AJ.mp (I.stkSub b z)).elim hL hb) hc) (fun b o _ _ hc e n=>u.any e n hc) (fun b o hc e n=>u.free b o e n hc) (fun b o hc e=>u.there b o e hc) u.tups u.frzs u.tbls (fun m' hm=>by
  obtain⟨o',es',ep',ho',r'⟩:=hm;rw [ho] at ho';cases ho';exact⟨_,es',ep',hL,r'⟩) hok hg
theorem Inv.turned {t':Nat}{it:Addr} (I:Inv X pins σ H s) (k:∀b o,b≠it->s.heap.get? b=some o->h'.get? b=some o) (hn:H it=none) (hL:it≠X.env.locals)
  (h1:it∈X.ex\/X.s₀.heap.objs.size<=it) (h2:∀x c,X.env.cells.lookup x=some c->c≠it) (h3:∀p∈X.pn++pins,p.1≠it):Inv X pins σ H {s with heap:=h',toks:=t'}:=by
 have nit:∀b u,H b=some u->b≠it:=fun b u e z=>by rw [z,hn] at e;cases e
 refine I.step (g':=s.gens) (d':=s.drawn) (ch:=[it]) (fun b hb=> ?_) (fun b o _ _ hc e _=>k b o (fun z=>hc (by simp [z])) e) (fun b o _ _ hc e _=>⟨o.slots,k b o (fun z=>hc (by simp [z])) e⟩) (fun _ _ _ _ n=>n)
  (fun b o hc e=>⟨o,k b o (fun z=>hc (by simp [z])) e⟩) (fun _ _ e=>e) (fun _ _ _ e=>e) (fun b ps e=>⟨#[],by rw [e];simp⟩) (fun m hm=> ?_) (fun b u e=> ?_) I.bare
 .have e:b=it:=by simpa using hb
  subst e;exact⟨h1,hL,h2,h3⟩
 .obtain⟨o,es,ep,ho,r⟩:=hm;exact⟨o,es,ep,k _ o (C9 hL) ho,r⟩
 .refine(I.hok b u e).stay (fun c v hc q=>k c v ?_ q) (fun _ q=>q) fun _ _ q=>q;rcases hc with z|z
  .rw [z];exact nit b u e
  .exact nit c _ z
theorem Inv.tok (I:Inv X pins σ H s) (t:Nat):Inv X pins σ H {s with toks:=t}:=I.un (h':=s.heap) (t':=t) Un.refl I.hok
theorem Inv.kept {t':Nat} (I:Inv X pins σ H s) (k:∀b u,s.heap.get? b=some u->h'.get? b=some u):Inv X pins σ H {s with heap:=h',toks:=t'}:=I.un (Un.kept k) (I.hok.kept k)
theorem Inv.laid {a:Addr}{o:HO}{t':Nat} (I:Inv X pins σ H s) (k:∀b u,s.heap.get? b=some u->h'.get? b=some u) (hp:s.heap.objs.size<=a) (new:aC_ X.prog X.w (upd H a o) h' a o):
  Inv X pins σ (upd H a o) {s with heap:=h',toks:=t'}:=I.un (Un.laid k hp (I.hok.fresh hp)) (I.hok.laid k hp new)
theorem Inv.write {x e:Addr}{o:HO}{t':Nat} (I:Inv X pins σ H s) (mu:Mut (H x)) (he:e=x\/H e=some (.own x)) (k:∀b u,b≠e->s.heap.get? b=some u->h'.get? b=some u) (heo:∃u,h'.get? e=some u)
  (new:aC_ X.prog X.w (upd H x o) h' x o):Inv X pins σ (upd H x o) {s with heap:=h',toks:=t'}:=I.un (Un.write mu he k heo) (I.hok.write mu he k heo new)
theorem Inv.weak {σ':List (Option V)} (I:Inv X pins σ H s) (hl:σ'.length=σ.length) (w:∀(i:Nat) v,σ'[i]? =some (some v)->σ[i]? =some (some v)):Inv X pins σ' H s:=
 ⟨I.ok,I.os,I.bare,I.base,let ⟨m,hn,hl'⟩:=I.loc;⟨m,hn,fun i x v e1 e2 e3=>hl' i x v e1 (w i v e2) e3⟩,I.cell,I.free,I.freeC,I.pin,I.hok,hl.trans I.len⟩
theorem Inv.pins_of {pins':List (Addr×Obj)} (I:Inv X pins σ H s) (h:∀p∈pins',s.heap.get? p.1=some p.2/\H p.1=none/\p.1≠X.env.locals/\p.1∉X.fs/\∀v,p.2.data≠ .cell v):Inv X pins' σ H s:=
 ⟨I.ok,I.os,I.bare,I.base,I.loc,I.cell,I.free,I.freeC,fun p hp=>(Bd.mp hp).elim (fun z=>I.pin p (List.mem_append_left _ z)) (h p),I.hok,I.len⟩
theorem jQ_ {N:List Str} (hN:N.Nodup) {i j:Nat}{x:Str} (a:N[i]? =some x) (b:N[j]? =some x):i=j:=by
 obtain⟨h1,e1⟩:=AD.mp a;obtain⟨h2,e2⟩:=AD.mp b;exact(List.getElem_inj hN).mp (e1.trans e2.symm)
theorem lD_ {M:Model}{A:Around}{E:Value->Shared->Prop}{i:Nat}{x:Str}{v:V}{u:Value}{Q:Unit->Shared->Prop} (I:Inv X pins σ H s) (hN:X.N.Nodup) (hi:X.N[i]? =some x) (hx:Loc X.env.scope x) (r:aZ_ v u)
  (h:∀s',Inv X pins (σ.set i (some v)) H s'->(∃a,Heap.SameBut a s.heap s'.heap/\(a=X.env.locals\/X.env.cells.lookup x=some a))->Q () s') (hf:X.fn x=true\/X.env.scope.names.lookup x=some .local:=by first|exact .inl rfl|exact .inr rfl|assumption):wpAny M A (storeName X.env x u) Q E s:=by
 obtain⟨m,hn,hl⟩:=id I.loc;have hcls:(X.env.scope.kind== .class||(X.env.scope.kind== .module&&X.env.locals !=X.env.globals))=false:=by rw [I.ok.kind];rfl
 have hiσ:i<σ.length:=by rw [I.len];exact(AD.mp hi).1
 have cne:=I.cne;have tracked:∀{a:Addr}{h':Heap},(∃o,s.heap.get? a=some o/\H a=none)->Heap.SameBut a s.heap h'->HOk X.prog X.w H h':=fun{a h'} ha hs b ob e=>by
  obtain⟨_,_,hfree⟩:=ha;refine(I.hok b ob e).stay (fun c w' hc q=>(hs.2 c ?_).trans q) (fun _ q=>q) fun _ _ q=>q;rintro rfl;rcases hc with rfl|hc
  .rw [hfree] at e;cases e
  .rw [hfree] at hc;cases hc
 rcases hx with hk|hk
 .refine wpAny_storeName_local hk hn (fun h' hn' hs=> ?_) hcls;obtain⟨oL,_,_,hoL,_⟩:=id hn;refine h _ ⟨I.ok,I.os,I.bare,⟨fun b o e n hb hx=> ?_,fun b o e n hb hx=> ?_,I.base.free,fun b o e hx=> ?_,I.base.tups,I.base.frzs,I.base.tbls⟩,⟨_,hn',fun j y v' e1 e2 e3=> ?_⟩,fun y c e=> ?_,I.free,I.freeC,fun p hp=> ?_,tracked ⟨oL,hoL,I.free⟩ hs,by simpa using I.len⟩ ⟨_,hs, .inl rfl⟩
  .exact(hs.2 b (AL (Ag (AI e) I.ok.above))).trans (I.base.keep b o e n hb hx)
  .obtain⟨sl,e1⟩:=I.base.slot b o e n hb hx;exact⟨sl,(hs.2 b (AL (Ag (AI e) I.ok.above))).trans e1⟩
  .obtain⟨o',e1⟩:=I.base.there b o e hx;exact⟨o',(hs.2 b (AL (Ag (AI e) I.ok.above))).trans e1⟩
  .by_cases hj:j=i
   .subst hj;rw [hi] at e1;cases e1;rw [List.getElem?_set_self hiσ] at e2;cases e2;exact⟨u,r, .inl ⟨hk,by simp⟩⟩
   .rw [CL (C9 hj)] at e2;obtain⟨u',r',q⟩:=hl j y v' e1 e2 e3;refine⟨u',r', ?_⟩;rcases q with⟨k,e⟩|⟨k,c,e,z⟩
    .refine .inl ⟨k, ?_⟩;have:y≠x:=fun e=>hj (jQ_ hN e1 (e▸hi));simp [this,e]
    .exact .inr ⟨k,c,e,z.sameBut hs (cne y c e)⟩
  .obtain⟨w',z⟩:=I.cell y c e;exact⟨w',z.sameBut hs (cne y c e)⟩
  .obtain⟨e,n,ne,nf,d⟩:=I.pin p hp;exact⟨(hs.2 p.1 ne).trans e,n,ne,nf,d⟩
 .have hfn:X.fn x=true:=by
   rcases hf with z|z
   .exact z
   .rw [z] at hk;cases hk
  obtain⟨c,hc⟩:=I.ok.has x (.inl hk);obtain⟨w',z⟩:=I.cell x c hc;refine wpAny_storeName_cell I.ok.kind hk hc z (fun h' hc' hs=> ?_);obtain⟨oc,hoc,hocd⟩:=id z;refine h {s with heap:=h'} ⟨I.ok,I.os,I.bare,⟨fun b o e n hb hx=> ?_,fun b o e n hb hx=> ?_,I.base.free,fun b o e hx=> ?_,I.base.tups,I.base.frzs,I.base.tbls⟩,⟨m,hn.sameBut hs (C9 (cne x c hc)),fun j y v' e1 e2 e3=> ?_⟩,fun y c' e=> ?_,I.free,I.freeC,fun p hp=> ?_,tracked ⟨oc,hoc,I.freeC x c hc⟩ hs,by simpa using I.len⟩ ⟨c,hs, .inr hc⟩
  .exact(hs.2 b (AL (Ag (AI e) (I.ok.cab x c hfn hc)))).trans (I.base.keep b o e n hb hx)
  .obtain⟨sl,e1⟩:=I.base.slot b o e n hb hx;exact⟨sl,(hs.2 b (AL (Ag (AI e) (I.ok.cab x c hfn hc)))).trans e1⟩
  .obtain⟨o',e1⟩:=I.base.there b o e hx;exact⟨o',(hs.2 b (AL (Ag (AI e) (I.ok.cab x c hfn hc)))).trans e1⟩
  .by_cases hj:j=i
   .subst hj;rw [hi] at e1;cases e1;rw [List.getElem?_set_self hiσ] at e2;cases e2;exact⟨u,r, .inr ⟨.inl hk,c,hc,hc'⟩⟩
   .rw [CL (C9 hj)] at e2;obtain⟨u',r',q⟩:=hl j y v' e1 e2 e3;refine⟨u',r', ?_⟩;rcases q with q|⟨k,c',e,z'⟩
    .exact .inl q
    .refine .inr ⟨k,c',e,z'.sameBut hs ?_⟩;rintro rfl;exact hj (jQ_ hN e1 (I.ok.inj _ _ _ e hc▸hi))
  .by_cases hcc:c'=c
   .subst hcc;exact⟨_,hc'⟩
   .obtain⟨w2,z2⟩:=I.cell y c' e;exact⟨w2,z2.sameBut hs hcc⟩
  .obtain⟨e,n,ne,nf,d⟩:=I.pin p hp;refine⟨(hs.2 p.1 ?_).trans e,n,ne,nf,d⟩;intro q;rw [q,hoc] at e;have q':oc=p.2:=Ae e;exact d w' (by rw [<-q'];exact hocd)
theorem er_ {M:Model}{A:Around}{E:Value->Shared->Prop}{i:Nat}{x:Str}{v:V}{u:Value}{Q:Unit->Shared->Prop} (I:Inv X pins σ H s) (hN:X.N.Nodup) (hi:X.N[i]? =some x) (hx:Loc X.env.scope x) (r:aZ_ v u)
  (h:∀s',Inv X pins (σ.set i (some v)) H s'->Q () s') (hf:X.fn x=true\/X.env.scope.names.lookup x=some .local:=by first|exact .inl rfl|exact .inr rfl|assumption):wpAny M A (storeName X.env x u) Q E s:=
 lD_ I hN hi hx r (fun s' I' _=>h s' I') hf
theorem Inv.call' {s':Shared}{ch:List Addr} (I:Inv X pins σ H s) (ho:s'.os=s.os) (u:Un (frs X.stack) ch H H' s.heap s'.heap) (hok:HOk X.prog X.w H' s'.heap) (hg:AllBare s'.gens)
  (hch:∀b∈ch,(b∈X.ex\/X.s₀.heap.objs.size<=b)/\b≠X.env.locals/\(∀x c,X.env.cells.lookup x=some c->c≠b)/\∀p∈X.pn++pins,p.1≠b):Inv X pins σ H' s':=by
 obtain⟨h',g',d',t',o'⟩:=s';have e:o'=s.os:=ho;subst e;exact I.call (g':=g') (t':=t') (d':=d') u hok hg hch
end
abbrev XK:=Value->Option Addr->Hp->Prop
abbrev St:=List (Option V)
abbrev VK:=V->Hp->Prop
abbrev TE:=St->Hp->VK->Prop
abbrev TT:=St->Hp->(Bool->Hp->Prop)->Prop
abbrev TA:=St->Hp->(List V->Hp->Prop)->Prop
structure Ends where
 nx:St->Hp->Prop
 rt:VK
 bk:St->Hp->Prop:=fun _ _=>False
 ct:St->Hp->Prop:=fun _ _=>False
abbrev TS:=Ends->St->Hp->Prop
def EP (X:Cx) (pins:List (Addr×Obj)) (σ:St) (Q:VK) (u:Value) (s':Shared):Prop:=∃v H',Inv X pins σ H' s'/\aZ_ v u/\Q v H'
def TP (X:Cx) (pins:List (Addr×Obj)) (σ:St) (Q:Bool->Hp->Prop) (b:Bool) (s':Shared):Prop:=∃H',Inv X pins σ H' s'/\Q b H'
def AP (X:Cx) (pins:List (Addr×Obj)) (σ:St) (Q:List V->Hp->Prop) (us:List Value) (s':Shared):Prop:=∃vs H',Inv X pins σ H' s'/\aV_ vs us/\Q vs H'
def SP (X:Cx) (pins:List (Addr×Obj)) (D:Ends) (f:Flow) (s':Shared):Prop:=
 match f with
 | .next=>∃σ' H',Inv X pins σ' H' s'/\D.nx σ' H'
 | .brk=>∃σ' H',Inv X pins σ' H' s'/\D.bk σ' H'
 | .cont=>∃σ' H',Inv X pins σ' H' s'/\D.ct σ' H'
 | .ret u=>∃v σ' H',Inv X pins σ' H' s'/\aZ_ v u/\D.rt v H'
def PE (X:Cx) (e:Expr) (t:TE):Prop:=
 ∀(pins:List (Addr×Obj)) (s:Shared) (σ:St) (H:Hp) (Q:VK),Inv X pins σ H s->t σ H Q->wpAny (model X.prog X.w) X.A (eval e X.env) (EP X pins σ Q) X.xe s
def PT (X:Cx) (e:Expr) (t:TT):Prop:=
 ∀(pins:List (Addr×Obj)) (s:Shared) (σ:St) (H:Hp) (Q:Bool->Hp->Prop),Inv X pins σ H s->t σ H Q->wpAny (model X.prog X.w) X.A (isTrue e X.env (eval e X.env)) (TP X pins σ Q) X.xe s
def PW (X:Cx) (e:Expr) (t:TT):Prop:=
 ∀(whole:Sem Value) (pins:List (Addr×Obj)) (s:Shared) (σ:St) (H:Hp) (Q:Bool->Hp->Prop),Inv X pins σ H s->t σ H Q->wpAny (model X.prog X.w) X.A (isTrue e X.env whole) (TP X pins σ Q) X.xe s
theorem PW.pt {X:Cx}{e:Expr}{t:TT} (h:PW X e t):PT X e t:=h _
def PA (X:Cx) (es:List Expr) (t:TA):Prop:=
 ∀(pos:Pos) (pins:List (Addr×Obj)) (s:Shared) (σ:St) (H:Hp) (Q:List V->Hp->Prop),Inv X pins σ H s->t σ H Q->wpAny (model X.prog X.w) X.A (spliced (backTo pos (starEach es X.env))) (AP X pins σ Q) X.xe s
def PS (X:Cx) (st:Stmt) (t:TS):Prop:=
 ∀(pins:List (Addr×Obj)) (s:Shared) (σ:St) (H:Hp) (D:Ends),Inv X pins σ H s->t D σ H->wpAny (model X.prog X.w) X.A (exec st X.env) (SP X pins D) X.xe s
def PSs (X:Cx) (st:List Stmt) (t:TS):Prop:=
 ∀(pins:List (Addr×Obj)) (s:Shared) (σ:St) (H:Hp) (D:Ends),Inv X pins σ H s->t D σ H->wpAny (model X.prog X.w) X.A (execs st X.env) (SP X pins D) X.xe s
theorem thn {α:Type}{t:Sem α}{Q Q':α->Shared->Prop}{M:Model}{A:Around}{E:Value->Shared->Prop}{s:Shared} (h:wpAny M A t Q E s) (hQ:∀a s,Q a s->Q' a s):wpAny M A t Q' E s:=BU h hQ fun _ _ x=>x
end L2
namespace L2
open PySem PySem.Spec PyProof.Rows
section
variable {X:Cx}
def ta_ (i:Nat):TE:=fun σ H Q=>∃v,σ[i]? =some (some v)/\Q v H
def tC (v:V):TE:=fun _ H Q=>Q v H
theorem r1_ {i:Nat}{x:Str}{pos:Pos} (hN:X.N[i]? =some x) (hv:Vis X.env.scope x) (hd:(x==("__debug__":Str))=false:=by decide) (hcd:(x==("__classdict__":Str))=false:=by decide):PE X (.Name x pos) (ta_ i):=by
 intro pins s σ H Q I h;obtain⟨v,e,h⟩:=h;obtain⟨m,hn,hl⟩:=I.loc;obtain⟨u,r,l⟩:=hl i x v hN e hv;have fin:EP X pins σ Q u s:=⟨v,H,I,r,h⟩;rcases l with⟨hk,hm⟩|⟨hk,c,hc,hcell⟩
 .exact wpAny_Name (wpAny_loadName_local I.ok.kind hk hn hm fin) hd
 .rcases hk with hk|hk
  .exact wpAny_Name (wpAny_loadName_cell I.ok.kind hk hc hcell fin) hd
  .exact wpAny_Name (wpAny_loadName_free I.ok.kind hk hc hcell fin hcd) hd
theorem ae_ {i j pos}:PE X (.Constant (.int i) j pos) (tC (.int i)):=fun _ _ _ H _ I h=>wpAny_Constant_int ⟨.int i,H,I.tok _,⟨_,rfl⟩,h⟩
theorem fk_ {b j pos}:PE X (.Constant (.bool b) j pos) (tC (.bl b)):=fun _ _ _ H _ I h=>Constant_bool ⟨.bl b,H,I,rfl,h⟩
theorem r4_ {j pos}:PE X (.Constant .none j pos) (tC .non):=fun _ _ _ H _ I h=>Constant_none ⟨.non,H,I,rfl,h⟩
theorem mb_ {x j pos}:PE X (.Constant (.str x) j pos) (tC (.str x)):=fun _ _ _ H _ I h=>Calls.Constant_str ⟨.str x,H,I.tok _,⟨_,rfl⟩,h⟩
def Gl (X:Cx) (x:Str):Prop:=X.env.kindOf x=some .globalImplicit
theorem gz_ {E:Value->Shared->Prop}{pins:List (Addr×Obj)}{s:Shared}{σ:St}{H:Hp}{x:Str}{u:Value}{pos:Pos}{Q:Value->Shared->Prop} (I:Inv X pins σ H s) (hg:Gl X x) (hm:X.mg x=some u) (h:Q u s)
  (hd:(x==("__debug__":Str))=false:=by decide):wpAny (model X.prog X.w) X.A (eval (.Name x pos) X.env) Q E s:=
 Calls.Name_function_global I.ok.kind hg (Calls.loadGlobal_global (by rw [I.ok.glob];exact I.mod.glob.keeps I.bk) hm h) hd
theorem cK_ {E:Value->Shared->Prop}{pins:List (Addr×Obj)}{s:Shared}{σ:St}{H:Hp}{x:Str}{u:Value}{pos:Pos}{Q:Value->Shared->Prop} (I:Inv X pins σ H s) (hg:Gl X x) (hm:X.mg x=none) (hv:bootBuiltins x=some u) (h:Q u s)
  (hn:x≠"__name__":=by decide) (hd:(x==("__debug__":Str))=false:=by decide):wpAny (model X.prog X.w) X.A (eval (.Name x pos) X.env) Q E s:=by
 obtain⟨mb,h1,h2⟩:=I.mod.blt;exact Calls.Name_function_global I.ok.kind hg (Calls.loadGlobal_builtin (by rw [I.ok.glob];exact I.mod.glob.keeps I.bk) hm (by rw [I.ok.blt];exact h1.keeps I.bk) ((h2 x hn).trans hv) h) hd
theorem dY_ {x:Str}{v:V}{u:Value}{pos:Pos} (hg:Gl X x) (hm:X.mg x=some u) (r:aZ_ v u) (hd:(x==("__debug__":Str))=false:=by decide):PE X (.Name x pos) (tC v):=
 fun _ _ _ H _ I h=>gz_ I hg hm ⟨v,H,I,r,h⟩ hd
theorem dg_ {x:Str}{v:V}{u:Value}{pos:Pos} (hg:Gl X x) (hm:X.mg x=none) (hv:bootBuiltins x=some u) (r:aZ_ v u) (hn:x≠"__name__":=by decide) (hd:(x==("__debug__":Str))=false:=by decide):PE X (.Name x pos) (tC v):=
 fun _ _ _ H _ I h=>cK_ I hg hm hv ⟨v,H,I,r,h⟩ hn hd
variable {a b:Expr}{ta tb:TE}{pos:Pos}
def PC (X:Cx) (op:CmpOp) (a b:Expr) (t:TE):Prop:=
 ∀(pins:List (Addr×Obj)) (s:Shared) (σ:St) (H:Hp) (Q:VK),Inv X pins σ H s->t σ H Q->
  wpAny (model X.prog X.w) X.A (eval a X.env) (fun v s₁=>wpAny (model X.prog X.w) X.A (eval b X.env) (fun u s₂=>wpAny (model X.prog X.w) X.A (compareOp op v u) (EP X pins σ Q) X.xe s₂) X.xe s₁) X.xe s
theorem oi_ (b:Expr) {op:CmpOp} (h:op≠ .In) (h2:op≠ .NotIn):behindInMarks op b=false:=by
 have e1:(op==CmpOp.In)=false:=by cases op<;>first|rfl|exact absurd rfl h
 have e2:(op==CmpOp.NotIn)=false:=by cases op<;>first|rfl|exact absurd rfl h2
 cases b<;>simp [behindInMarks,e1,e2]
def tB (t:TE):TT:=fun σ H Q=>t σ H fun x H1=>∃c,x= .bl c/\Q c H1
theorem rV_ {op:CmpOp}{t:TE} (h:PC X op a b t) (h1:behindInMarks op b=false:=by first|exact oi_ _ (by decide) (by decide)|rfl):PT X (.Compare a [op] [b] pos) (tB t):=by
 intro pins s σ H Q I hw;refine wpAny_isTrue_Compare1 (thn (h pins s σ H _ I hw) fun v s1 h1=>thn h1 fun u s2 h2=>thn h2 fun c s3 ⟨x,H1,I1,r1,q1⟩=> ?_) h1;obtain⟨d,rfl,q⟩:=q1;cases r1;exact Bh ⟨H1,I1,q⟩
theorem cB_ {e:Expr}{t:TE} (h:PE X e t) (he:∀whole,isTrue e X.env whole=(do let v<-whole;standAt e.pos;holding [v] (truthy v)):=by intro _;rfl):PT X e (tB t):=by
 intro pins s σ H Q I hw;refine isTrue_plain (thn (h pins s σ H _ I hw) fun v s1 ⟨x,H1,I1,r1,q1⟩=> ?_) (he _);obtain⟨d,rfl,q⟩:=q1;cases r1;exact Bh ⟨H1,I1,q⟩
variable {tA tB':TT}{cl_:List Expr}
def uS_ (t u:TT):TT:=fun σ H Q=>t σ H fun c H1=>if c=true then u σ H1 Q else Q false H1
def tOr (t u:TT):TT:=fun σ H Q=>t σ H fun c H1=>if c=true then Q true H1 else u σ H1 Q
def uO_ (t:TT):TT:=fun σ H Q=>t σ H fun c H1=>Q (!c) H1
theorem l3_ (ha:PT X a tA):PW X (.BoolOp .And [a] pos) tA:=by
 intro wh pins s σ H Q I h;refine isTrue_and (thn (ha pins s σ H Q I h) fun c s1 e=> ?_);cases c with
 |true=>exact isTrue_and_nil e
 |false=>exact e
theorem fy_ (ha:PT X a tA):PW X (.BoolOp .Or [a] pos) tA:=by
 intro wh pins s σ H Q I h;refine isTrue_or (thn (ha pins s σ H Q I h) fun c s1 e=> ?_);cases c with
 |false=>exact isTrue_or_nil e
 |true=>exact e
theorem o5_ (ha:PT X a tA) (hb:PW X (.BoolOp .And (b::cl_) pos) tB'):PW X (.BoolOp .And (a::b::cl_) pos) (uS_ tA tB'):=by
 intro wh pins s σ H Q I h;refine isTrue_and (thn (ha pins s σ H _ I h) fun c s1 ⟨H1,I1,q1⟩=> ?_);cases c with
 |true=>exact hb wh pins s1 σ H1 Q I1 q1
 |false=>exact⟨H1,I1,q1⟩
theorem iL_ (ha:PT X a tA) (hb:PW X (.BoolOp .Or (b::cl_) pos) tB'):PW X (.BoolOp .Or (a::b::cl_) pos) (tOr tA tB'):=by
 intro wh pins s σ H Q I h;refine isTrue_or (thn (ha pins s σ H _ I h) fun c s1 ⟨H1,I1,q1⟩=> ?_);cases c with
 |true=>exact⟨H1,I1,q1⟩
 |false=>exact hb wh pins s1 σ H1 Q I1 q1
theorem dz_ (ha:PT X a tA):PT X (.UnaryOp .Not a pos) (uO_ tA):=by
 intro pins s σ H Q I h;exact isTrue_not (ha pins s σ H (fun c H1=>Q (!c) H1) I h)
def tC_ (ta tb:TE):TE:=fun σ H Q=>ta σ H fun x H1=>∃c,x= .bl c/\if c=true then tb σ H1 Q else Q (.bl false) H1
def uN_ (ta tb:TE):TE:=fun σ H Q=>ta σ H fun x H1=>∃c,x= .bl c/\if c=true then Q (.bl true) H1 else tb σ H1 Q
def ts_ (ta:TE):TE:=fun σ H Q=>ta σ H fun x H1=>∃c,x= .bl c/\Q (.bl (!c)) H1
theorem jI_ {op}{t:TE} (h:PE X a t):PE X (.BoolOp op [a] pos) t:=fun pins s σ H Q I hw=>BoolOp_one (h pins s σ H Q I hw)
theorem me_ (ha:PE X a ta) (hb:PE X (.BoolOp .And (b::cl_) pos) tb):PE X (.BoolOp .And (a::b::cl_) pos) (tC_ ta tb):=by
 intro pins s σ H Q I h;refine BoolOp_and (thn (ha pins s σ H _ I h) fun v s1 ⟨x,H1,I1,r1,q1⟩=> ?_);obtain⟨c,rfl,q1⟩:=q1;cases r1;refine Bh ?_;cases c with
 |true=>exact hb pins s1 σ H1 Q I1 q1
 |false=>exact⟨.bl false,H1,I1,rfl,q1⟩
theorem ub_ (ha:PE X a ta) (hb:PE X (.BoolOp .Or (b::cl_) pos) tb):PE X (.BoolOp .Or (a::b::cl_) pos) (uN_ ta tb):=by
 intro pins s σ H Q I h;refine BoolOp_or (thn (ha pins s σ H _ I h) fun v s1 ⟨x,H1,I1,r1,q1⟩=> ?_);obtain⟨c,rfl,q1⟩:=q1;cases r1;refine Bh ?_;cases c with
 |false=>exact hb pins s1 σ H1 Q I1 q1
 |true=>exact⟨.bl true,H1,I1,rfl,q1⟩
theorem r3_ (ha:PE X a ta):PE X (.UnaryOp .Not a pos) (ts_ ta):=by
 intro pins s σ H Q I h;refine UnaryOp_ (thn (ha pins s σ H _ I h) fun v s1 ⟨x,H1,I1,r1,q1⟩=> ?_);obtain⟨c,rfl,q1⟩:=q1;cases r1;exact not_of (Bh ⟨.bl (!c),H1,I1,rfl,q1⟩)
def tIf (t:TT) (ta tb:TE):TE:=fun σ H Q=>t σ H fun c H1=>if c=true then ta σ H1 Q else tb σ H1 Q
theorem n4_ {c:Expr} (hc:PT X c tA) (ha:PE X a ta) (hb:PE X b tb):PE X (.IfExp c a b pos) (tIf tA ta tb):=by
 intro pins s σ H Q I h;refine wpAny_IfExp (thn (hc pins s σ H _ I h) fun d s1 ⟨H1,I1,q1⟩=> ?_);cases d with
 |true=>exact ha pins s1 σ H1 Q I1 q1
 |false=>exact hb pins s1 σ H1 Q I1 q1
end
end L2
namespace L2
open PySem PySem.Spec PyProof.Rows
def SqL (K:W.Frag) (H:Hp) (a:Addr) (xs:List V):Prop:=
 Rd H a (.lst xs)\/
  ∃(o:Obj) (its:Array Value) (n:Nat),K.lookup a=some o/\o.cls= .type "list"/\o.dict=none/\o.data= .seq its n/\its.size<=sizeLine/\aV_ xs its.toList
def SqT (K:W.Frag) (H:Hp) (a:Addr) (xs:List V):Prop:=
 Rd H a (.tup xs)\/
  ∃(o:Obj) (its:Array Value) (n:Nat),K.lookup a=some o/\o.cls= .type "tuple"/\o.data= .seq its n/\its.size<=sizeLine/\aV_ xs its.toList
def vh_:Value->Option V
 | .none=>some .non
 | .bool b=>some (.bl b)
 | .int i _=>some (.int i)
 | .str x _=>some (.str x)
 | .bytes b _=>some (.byt b)
 | .float b _=>some (.flt b)
 | .ref a=>some (.ref a)
 | .type n=>some (.ty n)
 |_=>none
theorem aZ_.abs {x:V}{u:Value} (r:aZ_ x u):vh_ u=some x:=by
 cases x with
 |non=>cases r;rfl
 |bl _=>cases r;rfl
 |int _=>obtain⟨t,rfl⟩:=r;rfl
 |str _=>obtain⟨t,rfl⟩:=r;rfl
 |byt _=>obtain⟨t,rfl⟩:=r;rfl
 |flt _=>obtain⟨t,rfl⟩:=r;rfl
 |ref _=>cases r;rfl
 |ty _=>cases r;rfl
theorem aZ_.inj {x y:V}{u:Value} (r:aZ_ x u) (q:aZ_ y u):x=y:=Ae (r.abs.symm.trans q.abs)
theorem aV_.inj:∀{xs ys:List V}{us:List Value},aV_ xs us->aV_ ys us->xs=ys
 |_,_,_, .nil, .nil=>rfl
 |_,_,_, .cons r t, .cons r' t'=>by rw [r.inj r',aV_.inj t t']
section
variable {X:Cx}{pins:List (Addr×Obj)}{σ:St}{H:Hp}{s:Shared}{a:Addr}{xs ys:List V}
theorem SqL.of {K:W.Frag} (h:H a=some (.lst xs)):SqL K H a xs:= .inl (.inl h)
theorem SqT.of {K:W.Frag} (h:H a=some (.tup xs)):SqT K H a xs:= .inl (.inl h)
theorem Inv.list (I:Inv X pins σ H s) (h:SqL X.K H a xs):∃its:List Value,aV_ xs its/\PlainL s.heap a its.toArray/\xs.length<=sizeLine:=by
 rcases h with h|⟨o,its,n,hk,hc,hd,hs,hz,r⟩
 .obtain⟨z,its,n,r,e⟩:=h.ok I.hok;exact⟨its,r,⟨_,n,e,rfl,rfl,rfl⟩,z⟩
 .refine⟨its.toList,r,⟨o,n,I.kIn a o hk,hc,hd,by simpa using hs⟩, ?_⟩;have e:=r.length;simp only [Ah] at e;lia
theorem Inv.tuple (I:Inv X pins σ H s) (h:SqT X.K H a xs):∃its:List Value,aV_ xs its/\IsTup s.heap a its.toArray/\xs.length<=sizeLine:=by
 rcases h with h|⟨o,its,n,hk,hc,hs,hz,r⟩
 .obtain⟨z,its,r,p⟩:=h.ok I.hok;exact⟨its,r,p,z⟩
 .refine⟨its.toList,r,⟨o,I.kIn a o hk,hc,n,by simpa using hs⟩, ?_⟩;have e:=r.length;simp only [Ah] at e;lia
theorem Inv.list_inj (I:Inv X pins σ H s) (h:SqL X.K H a xs) (h':SqL X.K H a ys):xs=ys:=by
 obtain⟨its,r,⟨o,n,e,_,_,d⟩,_⟩:=I.list h;obtain⟨its',r',⟨o',n',e',_,_,d'⟩,_⟩:=I.list h';rw [e] at e';cases e';rw [d] at d';injection d' with d1 _;have:its=its':=by simpa using congrArg Array.toList d1
 subst this;exact r.inj r'
theorem Inv.tuple_inj (I:Inv X pins σ H s) (h:SqT X.K H a xs) (h':SqT X.K H a ys):xs=ys:=by
 obtain⟨its,r,⟨o,e,_,n,d⟩,_⟩:=I.tuple h;obtain⟨its',r',⟨o',e',_,n',d'⟩,_⟩:=I.tuple h';rw [e] at e';cases e';rw [d] at d';injection d' with d1 _;have:its=its':=by simpa using congrArg Array.toList d1
 subst this;exact r.inj r'
end
abbrev Cx.wish (X:Cx) (E:Value->Shared->Prop):Cx:={X with xe:=E}
abbrev Cx.nox (X:Cx):Cx:=X.wish fun _ _=>False
theorem Cx.Ok.wish {X:Cx} (ok:X.Ok) (E:Value->Shared->Prop):(X.wish E).Ok:=
 ⟨ok.mod,ok.kind,ok.glob,ok.blt,ok.above,ok.inj,ok.has,ok.cab,ok.hd,ok.frames,ok.stk,ok.exf,ok.bs,ok.bsz,ok.noex,ok.exfs,ok.funs,ok.frf⟩
theorem Cx.Ok.unwish {X:Cx}{E:Value->Shared->Prop} (ok:(X.wish E).Ok):X.Ok:=
 ⟨ok.mod,ok.kind,ok.glob,ok.blt,ok.above,ok.inj,ok.has,ok.cab,ok.hd,ok.frames,ok.stk,ok.exf,ok.bs,ok.bsz,ok.noex,ok.exfs,ok.funs,ok.frf⟩
section
variable {X:Cx}{pins:List (Addr×Obj)}{σ:St}{H:Hp}{s:Shared}{E:Value->Shared->Prop}
theorem Inv.wish (I:Inv X pins σ H s) (E:Value->Shared->Prop):Inv (X.wish E) pins σ H s:=⟨I.ok.wish E,I.os,I.bare,I.base,I.loc,I.cell,I.free,I.freeC,I.pin,I.hok,I.len⟩
theorem Inv.unwish (I:Inv (X.wish E) pins σ H s):Inv X pins σ H s:=⟨I.ok.unwish,I.os,I.bare,I.base,I.loc,I.cell,I.free,I.freeC,I.pin,I.hok,I.len⟩
theorem SP.unwish {D:Ends}{f:Flow}{s':Shared} (h:SP (X.wish E) pins D f s'):SP X pins D f s':=by
 cases f with
 |next=>obtain⟨σ',H',I,q⟩:=h;exact⟨σ',H',I.unwish,q⟩
 |brk=>obtain⟨σ',H',I,q⟩:=h;exact⟨σ',H',I.unwish,q⟩
 |cont=>obtain⟨σ',H',I,q⟩:=h;exact⟨σ',H',I.unwish,q⟩
 |ret u=>obtain⟨v,σ',H',I,r,q⟩:=h;exact⟨v,σ',H',I.unwish,r,q⟩
theorem PSs.nox {st:List Stmt}{t:TS} (h:PSs X.nox st t):PSs X st t:=fun pins s σ H D I hw=>
 BU (h pins s σ H D (I.wish _) hw) (fun _ _ q=>q.unwish) fun _ _ z=>False.elim z
end
section
variable {X:Cx}{st:Stmt}{cl_:List Stmt}{t u:TS}{e:Expr}{te:TE}{pos:Pos}
def tu_:TS:=fun D σ H=>D.nx σ H
def uL_ (t u:TS):TS:=fun D σ H=>t {D with nx:=u D} σ H
theorem aB_:PSs X [] tu_:=fun _ _ σ H _ I h=>wpAny_execs_nil ⟨σ,H,I,h⟩
theorem ac_ (h1:PS X st t) (h2:PSs X cl_ u):PSs X (st::cl_) (uL_ t u):=by
 intro pins s σ H D I h;refine wpAny_execs_cons (thn (h1 pins s σ H {D with nx:=u D} I h) fun f s1 q=> ?_);cases f with
 |next=>
  obtain⟨σ',H',I',q⟩:=q;exact h2 pins s1 σ' H' D I' q
 |ret v=>exact q
 |brk=>exact q
 |cont=>exact q
theorem ad_ (h1:PS X st t):PSs X [st] t:=by
 intro pins s σ H D I h;refine wpAny_execs_cons (thn (h1 pins s σ H D I h) fun f s1 q=> ?_);cases f with
 |next=>exact wpAny_execs_nil q
 |ret v=>exact q
 |brk=>exact q
 |cont=>exact q
theorem Inv.quiet {pins:List (Addr×Obj)}{σ:St}{H:Hp}{s:Shared} (I:Inv X pins σ H s):interactive X.env=false:=by simp [interactive,I.ok.kind]
def ty_ (te:TE):TS:=fun D σ H=>te σ H fun _ H1=>D.nx σ H1
theorem aG_ (he:PE X e te) (hs:swapsWith e none pos.line X.env=pure false:=by rfl):PS X (.Expr e pos) (ty_ te):=by
 intro pins s σ H D I h;exact wpAny_Expr_any (thn (he pins s σ H _ I h) fun v s1 ⟨x,H1,I1,r1,q1⟩=>⟨σ,H1,I1,q1⟩) I.quiet hs
def uM_ (te:TE):TS:=fun D σ H=>te σ H D.rt
theorem ap_ (he:PE X e te):PS X (.Return (some e) pos) (uM_ te):=by
 intro pins s σ H D I h;exact wpAny_Return_some (thn (he pins s σ H _ I h) fun v s1 ⟨x,H1,I1,r1,q1⟩=>⟨x,σ,H1,I1,r1,q1⟩)
def uP_ (c:TT) (t u:TS):TS:=fun D σ H=>c σ H fun b H1=>if b=true then t D σ H1 else u D σ H1
theorem bl_ {c:Expr}{a b:List Stmt}{tc:TT} (hc:PT X c tc) (ha:PSs X a t) (hb:PSs X b u):PS X (.If c a b pos) (uP_ tc t u):=by
 intro pins s σ H D I h;refine wpAny_If (thn (hc pins s σ H _ I h) fun d s1 ⟨H1,I1,q1⟩=> ?_);cases d with
 |true=>exact ha pins s1 σ H1 D I1 q1
 |false=>exact hb pins s1 σ H1 D I1 q1
def ru_:TS:=fun _ _ _=>False
theorem f5_:PS X st ru_:=fun _ _ _ _ _ _ h=>h.elim
end
abbrev TG:=V->St->Hp->(St->Hp->Prop)->Prop
abbrev TGs:=List V->St->Hp->(St->Hp->Prop)->Prop
def PG (X:Cx) (target:Expr) (t:TG):Prop:=
 ∀(pins:List (Addr×Obj)) (s:Shared) (σ:St) (H:Hp) (v:V) (u:Value) (Q:St->Hp->Prop),Inv X pins σ H s->aZ_ v u->t v σ H Q->
  wpAny (model X.prog X.w) X.A (assign target X.env u) (fun _ s'=>∃σ' H',Inv X pins σ' H' s'/\Q σ' H') X.xe s
def PGs (X:Cx) (ts:List Expr) (t:TGs):Prop:=
 ∀(pins:List (Addr×Obj)) (s:Shared) (σ:St) (H:Hp) (vs:List V) (us:List Value) (Q:St->Hp->Prop),Inv X pins σ H s->aV_ vs us->t vs σ H Q->
  wpAny (model X.prog X.w) X.A (assignInOrder ((assignEach ts X.env).map (·.2)) us) (fun _ s'=>∃σ' H',Inv X pins σ' H' s'/\Q σ' H') X.xe s
abbrev s3_:=V->V->V->Hp->(Hp->Prop)->Prop
def ux_ (X:Cx) (t:s3_):Prop:=
 ∀(pins:List (Addr×Obj)) (s:Shared) (σ:St) (H:Hp) (o i v:V) (ov iv u:Value) (Q:Hp->Prop),Inv X pins σ H s->aZ_ o ov->aZ_ i iv->aZ_ v u->t o i v H Q->
  wpAny (model X.prog X.w) X.A (setItem ov iv u) (fun _ s'=>∃H',Inv X pins σ H' s'/\Q H') X.xe s
abbrev TIp:=V->V->Hp->VK->Prop
def PIp (X:Cx) (op:Operator) (t:TIp):Prop:=
 ∀(pins:List (Addr×Obj)) (s:Shared) (σ:St) (H:Hp) (x y:V) (v u:Value) (Q:VK),Inv X pins σ H s->aZ_ x v->aZ_ y u->t x y H Q->
  wpAny (model X.prog X.w) X.A (inplaceOp op v u) (EP X pins σ Q) X.xe s
section
variable {X:Cx}{pos:Pos}
def eo_ (i:Nat):TG:=fun v σ H Q=>Q (σ.set i (some v)) H
theorem aj_ {i:Nat}{x:Str} (hN:X.N.Nodup) (hi:X.N[i]? =some x) (hx:Loc X.env.scope x) (hf:X.fn x=true\/X.env.scope.names.lookup x=some .local:=by first|exact .inl rfl|exact .inr rfl|assumption):PG X (.Name x pos) (eo_ i):=by
 intro pins s σ H v u Q I r h;exact wpAny_assign_Name (er_ I hN hi hx r (fun s' I'=>⟨_,H,I',h⟩) hf)
def tg_:TGs:=fun vs σ H Q=>vs=[]/\Q σ H
def jd_ (t:TG) (u:TGs):TGs:=fun vs σ H Q=>∃v r,vs=v::r/\t v σ H fun σ' H'=>u r σ' H' Q
theorem bd_:PGs X [] tg_:=by
 intro pins s σ H vs us Q I r h;obtain⟨e,h⟩:=h;subst e;cases r;exact assignInOrder_nil ⟨σ,H,I,h⟩
theorem as_ {e:Expr}{es:List Expr}{t:TG}{u:TGs} (h1:PG X e t) (h2:PGs X es u)
  (hs:(assignEach (e::es) X.env).map (·.2)=assign e X.env::(assignEach es X.env).map (·.2):=by rfl):PGs X (e::es) (jd_ t u):=by
 intro pins s σ H vs us Q I r h;obtain⟨v,vr,e1,h⟩:=h;subst e1;cases r with
 |cons r rr=>
  rw [hs];refine assignInOrder_cons (thn (h1 pins s σ H _ _ _ I r h) fun _ s1 ⟨σ1,H1,I1,q1⟩=> ?_);exact h2 pins s1 σ1 H1 _ _ Q I1 rr q1
def sA_ (K:W.Frag) (n:Nat) (t:TGs):TG:=fun v σ H Q=>∃a xs,v= .ref a/\SqT K H a xs/\xs.length=n/\t xs σ H Q
theorem cn_ {es:List Expr}{k:Nat}{t:TGs}{n:Nat} (hc:X.calm=true) (h:PGs X es t)
  (hn:(assignEach es X.env).length=n:=by rfl) (hst:(assignEach es X.env).findIdx? (·.1)=none:=by rfl):PG X (.Tuple es k pos) (sA_ X.K n t):=by
 intro pins s σ H v u Q I r hw;obtain⟨a,xs,e1,hq,hl,hw⟩:=hw;subst e1;cases r;obtain⟨its,rv,ht,hz⟩:=I.tuple hq;refine assign_Tuple_tuple (I.ok.hd hc) ht (by simp [hn,<-hl,rv.length]) hst fun h' hx=> ?_;have I1:Inv X pins σ H {s with heap:=h'}:=I.kept (t':=s.toks) fun b o e=>hx b o (AL (AI e)) e;exact h pins _ σ H xs _ Q I1 (by simpa using rv) hw
def vf_ (to ti:TE) (t:s3_):TG:=fun v σ H Q=>to σ H fun o H1=>ti σ H1 fun i H2=>t o i v H2 fun H3=>Q σ H3
theorem rZ_ {o i:Expr}{to ti:TE}{t:s3_} (ho:PE X o to) (hi:PE X i ti) (hs:ux_ X t)
  (ha:∀v,assign (.Subscript o i pos) X.env v=(do
   let ov<-holding [v] (eval o X.env)
   let iv<-holding [v,ov] (eval i X.env)
   standAt pos
   holding [v,ov,iv] (setItem ov iv v)
   release [v,ov,iv] []):=by intro _;rfl):PG X (.Subscript o i pos) (vf_ to ti t):=by
 intro pins s σ H v u Q I r h;rw [ha];refine A0 (Ar (thn (ho pins s σ H _ I h) fun ov s1 ⟨x,H1,I1,r1,q1⟩=> ?_));refine A0 (Ar (thn (hi pins s1 σ H1 _ I1 q1) fun iv s2 ⟨y,H2,I2,r2,q2⟩=> ?_));refine A0 (wpAny_standAt (A0 (Ar (thn (hs pins s2 σ H2 x y v ov iv u _ I2 r1 r2 r q2) fun _ s3 ⟨H3,I3,q3⟩=> ?_))));exact wpAny_release ⟨σ,H3,I3,q3⟩
def uC_ (te:TE) (g:TG):TS:=fun D σ H=>te σ H fun x H1=>g x σ H1 D.nx
theorem rX_ {tg e:Expr}{te:TE}{g:TG} (he:PE X e te) (hg:PG X tg g) (hs:swapsWithSole [tg] e pos.line X.env=pure false:=by rfl) (hw:swappedStores [tg] e X.env=pure none:=by rfl)
  (h1:(assignEach [tg] X.env).map (·.2)=[assign tg X.env]:=by rfl):PS X (.Assign [tg] e pos) (uC_ te g):=by
 intro pins s σ H D I h;refine wpAny_Assign_stores (thn (he pins s σ H _ I h) fun v s1 ⟨x,H1,I1,r1,q1⟩=> ?_) hs hw;rw [h1];exact thn (hg pins s1 σ H1 x v _ I1 r1 q1) fun _ s2 q=>q
theorem ar_ {i:Nat}{x:Str}{e:Expr}{te:TE}{pos':Pos} (hN:X.N.Nodup) (hi:X.N[i]? =some x) (hx:Loc X.env.scope x) (he:PE X e te) (hs:swapsWith e (some (.Name x pos')) pos.line X.env=pure false:=by rfl) (hf:X.fn x=true\/X.env.scope.names.lookup x=some .local:=by first|exact .inl rfl|exact .inr rfl|assumption):
  PS X (.Assign [.Name x pos'] e pos) (uC_ te (eo_ i)):=by
 intro pins s σ H D I h;refine wpAny_Assign_Name (thn (he pins s σ H _ I h) fun v s1 ⟨y,H1,I1,r1,q1⟩=> ?_) hs;exact er_ I1 hN hi hx r1 (fun s2 I2=>⟨_,H1,I2,q1⟩) hf
def uR_ (i:Nat) (te:TE) (ti:TIp):TS:=fun D σ H=>∃x,σ[i]? =some (some x)/\te σ H fun y H1=>ti x y H1 fun z H2=>D.nx (σ.set i (some z)) H2
theorem jF_ {i:Nat}{x:Str}{e:Expr}{te:TE}{op:Operator}{ti:TIp}{pos':Pos} (hN:X.N.Nodup) (hi:X.N[i]? =some x) (hx:Loc X.env.scope x) (he:PE X e te) (ho:PIp X op ti) (hf:X.fn x=true\/X.env.scope.names.lookup x=some .local:=by first|exact .inl rfl|exact .inr rfl|assumption):
  PS X (.AugAssign (.Name x pos') op e pos) (uR_ i te ti):=by
 intro pins s σ H D I h;obtain⟨v,e1,h⟩:=h;obtain⟨m,hn,hl⟩:=I.loc;have vis:Vis X.env.scope x:=by rcases hx with k|k;exact .inl k;exact .inr (.inl k)
 obtain⟨u,r,l⟩:=hl i x v hi e1 vis;refine wpAny_AugAssign_Name ?_;have go:wpAny (model X.prog X.w) X.A (eval e X.env) (fun w s₂=>wpAny (model X.prog X.w) X.A (inplaceOp op u w) (fun r s₃=>wpAny (model X.prog X.w) X.A (storeName X.env x r) (fun _=>SP X pins D .next) X.xe s₃) X.xe s₂) X.xe s:=by
  refine thn (he pins s σ H _ I h) fun w s1 ⟨y,H1,I1,r1,q1⟩=> ?_;refine thn (ho pins s1 σ H1 v y u w _ I1 r r1 q1) fun z s2 ⟨zv,H2,I2,r2,q2⟩=> ?_;exact er_ I2 hN hi hx r2 (fun s3 I3=>⟨_,H2,I3,q2⟩) hf
 rcases l with⟨hk,hm⟩|⟨hk,c,hc,hcell⟩
 .exact wpAny_loadName_local I.ok.kind hk hn hm go
 .rcases hk with hk|hk
  .exact wpAny_loadName_cell I.ok.kind hk hc hcell go
  .rcases hx with k|k
   .have:X.env.scope.names.lookup x=some .free:=hk;rw [k] at this;cases this
   .have:X.env.scope.names.lookup x=some .free:=hk;rw [k] at this;cases this
def tB_ (to ti te:TE) (tget:V->V->Hp->VK->Prop) (tip:TIp) (tset:s3_):TS:=fun D σ H=>to σ H fun o H1=>ti σ H1 fun i H2=>tget o i H2 fun x H3=>te σ H3 fun y H4=>tip x y H4 fun z H5=>tset o i z H5 fun H6=>D.nx σ H6
def uI_ (X:Cx) (t:V->V->Hp->VK->Prop):Prop:=
 ∀(pins:List (Addr×Obj)) (s:Shared) (σ:St) (H:Hp) (o i:V) (ov iv:Value) (Q:VK),Inv X pins σ H s->aZ_ o ov->aZ_ i iv->t o i H Q->
  wpAny (model X.prog X.w) X.A (getItem ov iv) (EP X pins σ Q) X.xe s
theorem l4_ {o i e:Expr}{to ti te:TE}{tget:V->V->Hp->VK->Prop}{tip:TIp}{tset:s3_}{op:Operator}{tpos:Pos} (ho:PE X o to) (hi:PE X i ti) (hg:uI_ X tget) (he:PE X e te) (hp:PIp X op tip) (hs:ux_ X tset)
  (ha:∀ov iv new,augStore i ov iv new=(do holding [new,ov,iv] (setItem ov iv new);release [new,ov,iv] [];pure .next):=by intros;rfl):PS X (.AugAssign (.Subscript o i tpos) op e pos) (tB_ to ti te tget tip tset):=by
 intro pins s σ H D I h;refine wpAny_AugAssign_SubscriptAny (thn (ho pins s σ H _ I h) fun ov s1 ⟨x1,H1,I1,r1,q1⟩=> ?_) ha;refine thn (hi pins s1 σ H1 _ I1 q1) fun iv s2 ⟨x2,H2,I2,r2,q2⟩=> ?_;refine thn (hg pins s2 σ H2 x1 x2 ov iv _ I2 r1 r2 q2) fun old s3 ⟨x3,H3,I3,r3,q3⟩=> ?_;refine thn (he pins s3 σ H3 _ I3 q3) fun v s4 ⟨x4,H4,I4,r4,q4⟩=> ?_;refine thn (hp pins s4 σ H4 x3 x4 old v _ I4 r3 r4 q4) fun new s5 ⟨x5,H5,I5,r5,q5⟩=> ?_;exact thn (hs pins s5 σ H5 x1 x2 x5 ov iv new _ I5 r1 r2 r5 q5) fun _ s6 ⟨H6,I6,q6⟩=>⟨σ,H6,I6,q6⟩
def ipI (f:Int->Int->Int):TIp:=fun x y H Q=>∃i j,x= .int i/\y= .int j/\Q (.int (f i j)) H
theorem pm_:PIp X .Add (ipI fun i j=>i+j):=by
 intro pins s σ H x y v u Q I r1 r2 h;obtain⟨i,j,e1,e2,q⟩:=h;subst e1;subst e2;obtain⟨t,rfl⟩:=r1;obtain⟨t',rfl⟩:=r2;exact iadd_int ⟨.int _,H,I.tok _,⟨_,rfl⟩,q⟩
theorem sv_:PIp X .Sub (ipI fun i j=>i-j):=by
 intro pins s σ H x y v u Q I r1 r2 h;obtain⟨i,j,e1,e2,q⟩:=h;subst e1;subst e2;obtain⟨t,rfl⟩:=r1;obtain⟨t',rfl⟩:=r2;exact isub_int ⟨.int _,H,I.tok _,⟨_,rfl⟩,q⟩
end
section
variable {X:Cx}{pos:Pos}
end
structure It where
 go:Nat->Hp->Prop
 yld:Nat->Hp->V->Hp->Prop
 stop:Nat->Hp->Prop
def ip_ (X:Cx) (pins:List (Addr×Obj)) (H:Hp) (b:Addr):Prop:=
 H b=none/\b≠X.env.locals/\b∉X.fs/\(b∈X.ex\/X.s₀.heap.objs.size<=b)/\(∀x c,X.env.cells.lookup x=some c->c≠b)/\∀p∈X.pn++pins,p.1≠b
theorem Inv.fpOk {X:Cx}{pins:List (Addr×Obj)}{σ:St}{H H':Hp}{s:Shared}{b:Addr} (I:Inv X pins σ H s) (hb:s.heap.objs.size<=b) (hn:H' b=none):ip_ X pins H' b:=by
 refine⟨hn,BW (Ag I.lt hb),I.nofs hb, .inr (B6 I.sz hb),fun x c e z=> ?_,fun p hp z=> ?_⟩
 .obtain⟨v,q⟩:=I.cell x c e;exact absurd (Ag q.lt (by rw [z];exact hb)) (Bk _)
 .exact absurd (Ag (AI (I.pin p hp).1) (by rw [z];exact hb)) (Bk _)
structure Turn (P:Program) (w:World) (K:W.Frag) (tg:Expr) (J:It) (fp:List Addr) (it:Addr) (tn:Nat->Heap->Prop):Prop where
 mem:it∈fp
 obj:∀i h,tn i h->∀b∈fp,∃o,h.get? b=some o/\∀v,o.data≠ .cell v
 keep:∀i h h',tn i h->(∀b∈fp,∀o,h.get? b=some o->h'.get? b=some o)->tn i h'
 item:∀(X:Cx),X.prog=P->X.w=w->X.K=K->X.calm=true->∀(i:Nat) (pins:List (Addr×Obj)) (s:Shared) (σ:St) (H:Hp) (E:Value->Shared->Prop),Inv X pins σ H s->(∀b∈fp,ip_ X pins H b)->tn i s.heap->J.go i H->
  wpAny (model P w) X.A (pyNext (.ref it)) (fun r s1=>∃u,r=some u/\
   wpAny (model P w) X.A (letOwnedTupleGo tg (.ref it) u) (fun _ s2=>∃x H',Inv X pins σ H' s2/\aZ_ x u/\J.yld i H x H'/\tn (i+1) s2.heap/\∀b∈fp,H' b=none) E s1) E s
 done:∀(X:Cx),X.prog=P->X.w=w->X.K=K->X.calm=true->∀(i:Nat) (pins:List (Addr×Obj)) (s:Shared) (σ:St) (H:Hp) (E:Value->Shared->Prop),Inv X pins σ H s->(∀b∈fp,ip_ X pins H b)->tn i s.heap->J.stop i H->
  wpAny (model P w) X.A (pyNext (.ref it)) (fun r s1=>r=none/\Inv X pins σ H s1) E s
 self:∀(A:Around) (i:Nat) (s:Shared) (Q:Value->Shared->Prop) (E:Value->Shared->Prop),tn i s.heap->Q (.ref it) s->wpAny (model P w) A (pyIter (.ref it)) Q E s
abbrev TI:=St->Hp->(It->Hp->Prop)->Prop
def PIE (X:Cx) (pins:List (Addr×Obj)) (σ:St) (tg:Expr) (R:It->Hp->Prop) (itv:Value) (s2:Shared):Prop:=
 ∃(it:Addr) (fp:List Addr) (tn:Nat->Heap->Prop) (J:It) (H':Hp),itv= .ref it/\Inv X pins σ H' s2/\Turn X.prog X.w X.K tg J fp it tn/\tn 0 s2.heap/\(∀b∈fp,ip_ X pins H' b)/\R J H'
def PI (X:Cx) (tg iter:Expr) (wi:TI):Prop:=
 ∀(pins:List (Addr×Obj)) (s:Shared) (σ:St) (H:Hp) (R:It->Hp->Prop),Inv X pins σ H s->wi σ H R->
  wpAny (model X.prog X.w) X.A (eval iter X.env) (fun v s1=>wpAny (model X.prog X.w) X.A (pyIter v) (PIE X pins σ tg R) X.xe s1) X.xe s
theorem go_of {M : Model} {A : Around} {E : Value -> Shared -> Prop} {s : Shared} {tg : Expr} {it : Addr} {u : Value} {o : Obj} {n : String} {vs : Array Value} {Q : Unit -> Shared -> Prop} (ho : s.heap.get? it = some o) (hc : o.cls = .type n) (hd : o.data = .fields vs)
    (hn : ["enumerate", "zip", "dict_itemiterator", "dict_reverseitemiterator", "odict_iterator", "itertools.zip_longest", "itertools.pairwise"].contains n = false) (hQ : Q () s) : wpAny M A (letOwnedTupleGo tg (.ref it) u) Q E s := by
  unfold letOwnedTupleGo;cases tg <;> first
    | exact A2 hQ
    | (cases u <;> first
        | exact A2 hQ
        | (refine A0 (wpAny_load ho ?_)
           rw [hc, hd];show wpAny M A (if (["enumerate", "zip", "dict_itemiterator", "dict_reverseitemiterator", "odict_iterator", "itertools.zip_longest", "itertools.pairwise"].contains n && vs[0]? == some (rawInt _)) = true then _ else _) Q E s;rw [A5 (by intro h; rw [hn, Bool.false_and] at h; cases h)];exact A2 hQ))
def Itl (K:W.Frag) (a:Addr):It:=
 ⟨fun i H=>∃xs x,SqL K H a xs/\xs[i]? =some x,fun i H x H'=>H'=H/\∀xs,SqL K H a xs->xs[i]? =some x,fun i H=>∃xs,SqL K H a xs/\xs.length<=i⟩
def Itt (K:W.Frag) (a:Addr):It:=
 ⟨fun i H=>∃xs x,SqT K H a xs/\xs[i]? =some x,fun i H x H'=>H'=H/\∀xs,SqT K H a xs->xs[i]? =some x,fun i H=>∃xs,SqT K H a xs/\xs.length<=i⟩
def Itr (lo:Int) (n:Nat):It:=⟨fun i _=>i<n,fun i H x H'=>H'=H/\x= .int (lo+i),fun i _=>n<=i⟩
theorem lx_ {P:Program}{w:World}{K:W.Frag}{tg:Expr} (a it:Addr):Turn P w K tg (Itl K a) [it] it (fun i h=>h.IsListIter it a i) where
 mem:=by simp
 obj:=fun i h st b hb=>by
  have e:b=it:=by simpa using hb
  subst e;obtain⟨o,e,c,d⟩:=st;exact⟨o,e,fun v z=>by rw [d] at z;cases z⟩
 keep:=fun i h h' st k=>st.at fun o e=>k it (by simp) o e
 item:=by
  intro X hP hw hK hc i pins s σ H E I hf st hg;subst hP hw hK;obtain⟨xs,x,hq,hx⟩:=hg;obtain⟨its,rv,p,hz⟩:=I.list hq;obtain⟨u,hu,ru⟩:=rv.get hx;obtain⟨f0,f1,f2,f3,f4,f5⟩:=hf it (by simp);refine wpAny_pyNext_list_item st p.isList (x:=u) (by simpa using hu) fun h' st' sb=> ?_;have I1:Inv X pins σ H {s with heap:=h'}:=I.turned (t':=s.toks) (fun b o hb e=>(sb.2 b hb).trans e) f0 f1 f3 f4 f5;obtain⟨o,e,c,d⟩:=id st';exact⟨u,rfl,go_of (s:={s with heap:=h'}) e c d (by decide) ⟨x,H,I1,ru,⟨rfl,fun ys hy=>by rw [I.list_inj hy hq];exact hx⟩,st',fun b hb=>(hf b hb).1⟩⟩
 done:=by
  intro X hP hw hK hc i pins s σ H E I hf st hg;subst hP hw hK;obtain⟨xs,hq,hx⟩:=hg;obtain⟨its,rv,p,hz⟩:=I.list hq;obtain⟨f0,f1,f2,f3,f4,f5⟩:=hf it (by simp);have hl:=rv.length;exact wpAny_pyNext_list_end (I.ok.hd hc) st p.isList (by simp;lia) fun h' eb=>⟨rfl,I.turned (t':=s.toks) (fun b o hb e=>eb b o hb e) f0 f1 f3 f4 f5⟩
 self:=fun _ _ _ _ _ st h=>wpAny_pyIter_listiter st h
theorem kz_ {P:Program}{w:World}{K:W.Frag}{tg:Expr} (a it:Addr):Turn P w K tg (Itt K a) [it] it (fun i h=>h.IsTupleIter it a i) where
 mem:=by simp
 obj:=fun i h st b hb=>by
  have e:b=it:=by simpa using hb
  subst e;obtain⟨o,e,c,d⟩:=st;exact⟨o,e,fun v z=>by rw [d] at z;cases z⟩
 keep:=fun i h h' st k=>st.at fun o e=>k it (by simp) o e
 item:=by
  intro X hP hw hK hc i pins s σ H E I hf st hg;subst hP hw hK;obtain⟨xs,x,hq,hx⟩:=hg;obtain⟨its,rv,p,hz⟩:=I.tuple hq;obtain⟨u,hu,ru⟩:=rv.get hx;obtain⟨f0,f1,f2,f3,f4,f5⟩:=hf it (by simp);refine wpAny_pyNext_tuple_item st (show s.heap.IsTuple a its.toArray from p) (x:=u) (by simpa using hu) fun h' st' sb=> ?_;have I1:Inv X pins σ H {s with heap:=h'}:=I.turned (t':=s.toks) (fun b o hb e=>(sb.2 b hb).trans e) f0 f1 f3 f4 f5;obtain⟨o,e,c,d⟩:=id st';exact⟨u,rfl,go_of (s:={s with heap:=h'}) e c d (by decide) ⟨x,H,I1,ru,⟨rfl,fun ys hy=>by rw [I.tuple_inj hy hq];exact hx⟩,st',fun b hb=>(hf b hb).1⟩⟩
 done:=by
  intro X hP hw hK hc i pins s σ H E I hf st hg;subst hP hw hK;obtain⟨xs,hq,hx⟩:=hg;obtain⟨its,rv,p,hz⟩:=I.tuple hq;obtain⟨f0,f1,f2,f3,f4,f5⟩:=hf it (by simp);have hl:=rv.length;exact wpAny_pyNext_tuple_end (I.ok.hd hc) st (show s.heap.IsTuple a its.toArray from p) (by simp;lia) fun h' eb=>⟨rfl,I.turned (t':=s.toks) (fun b o hb e=>eb b o hb e) f0 f1 f3 f4 f5⟩
 self:=fun _ _ _ _ _ st h=>wpAny_pyIter_tupleiter st h
theorem kA_ {P:Program}{w:World}{K:W.Frag}{tg:Expr} (it:Addr) (lo:Int) (n:Nat):Turn P w K tg (Itr lo n) [it] it (fun i h=>IsRangeIter h it (lo+(i:Nat)*1) ((n:Int)-(i:Nat)) 1) where
 mem:=by simp
 obj:=fun i h st b hb=>by
  have e:b=it:=by simpa using hb
  subst e;exact⟨_,st,fun v z=>by
   have z':Data.fields _=Data.cell v:=z;cases z'⟩
 keep:=fun i h h' st k=>k it (by simp) _ st
 item:=by
  intro X hP hw hK hc i pins s σ H E I hf st hg;subst hP hw hK;obtain⟨f0,f1,f2,f3,f4,f5⟩:=hf it (by simp);have Wq:=Walks.range (prog:=X.prog) (w:=X.w) (I.ok.hd hc) it lo 1 n;refine Wq.item i s _ _ hg st fun v h' tk hv st' kk=> ?_;obtain⟨t,rfl⟩:=hv;have I1:Inv X pins σ H {s with heap:=h',toks:=tk}:=I.turned (fun b o hb e=>kk b o (by simpa using hb) e) f0 f1 f3 f4 f5;refine⟨_,rfl,go_of (s:={s with heap:=h',toks:=tk}) (n:="range_iterator") st' rfl rfl (by decide) ⟨.int (lo+i),H,I1,⟨t, ?_⟩,⟨rfl,rfl⟩,st',fun b hb=>(hf b hb).1⟩⟩;rw [Int.mul_one]
 done:=by
  intro X hP hw hK hc i pins s σ H E I hf st hg;subst hP hw hK;obtain⟨f0,f1,f2,f3,f4,f5⟩:=hf it (by simp);exact wpAny_pyNext_range_end (I.ok.hd hc) st (by have:n<=i:=hg;lia) fun h' eb=>⟨rfl,I.turned (t':=s.toks) (fun b o hb e=>eb b o hb e) f0 f1 f3 f4 f5⟩
 self:=fun _ _ _ _ _ st h=>wpAny_pyIter_rangeiter st h
end L2
namespace L2
open PySem PySem.Spec PyProof.Rows
section
variable {X:Cx}{tg:Expr}
def um_ (K:W.Frag) (tl:TE):TI:=fun σ H R=>tl σ H fun x H1=>∃a,x= .ref a/\(∃xs,SqL K H1 a xs)/\R (Itl K a) H1
def ve_ (K:W.Frag) (tl:TE):TI:=fun σ H R=>tl σ H fun x H1=>∃a,x= .ref a/\(∃xs,SqT K H1 a xs)/\R (Itt K a) H1
theorem aP_ {l:Expr}{tl:TE} (hl:PE X l tl):PI X tg l (um_ X.K tl):=by
 intro pins s σ H R I h;refine thn (hl pins s σ H _ I h) fun v s1 ⟨x,H1,I1,r1,q1⟩=> ?_;obtain⟨a,e,⟨xs,hq⟩,q⟩:=q1;subst e;cases r1;obtain⟨its,rv,p,hz⟩:=I1.list hq;refine wpAny_pyIter_list p.isList ?_;refine⟨s1.heap.objs.size,[s1.heap.objs.size],_,_,H1,rfl,I1.kept (t':=s1.toks) fun b o e=>A6 _ e,lx_ a _,⟨_,AF _ rfl,rfl,rfl⟩,fun b hb=> ?_,q⟩;have e:b=s1.heap.objs.size:=by simpa using hb
 subst e;exact I1.fpOk (AA _) (I1.hok.fresh (AA _))
theorem o7_ {l:Expr}{tl:TE} (hl:PE X l tl):PI X tg l (ve_ X.K tl):=by
 intro pins s σ H R I h;refine thn (hl pins s σ H _ I h) fun v s1 ⟨x,H1,I1,r1,q1⟩=> ?_;obtain⟨a,e,⟨xs,hq⟩,q⟩:=q1;subst e;cases r1;obtain⟨its,rv,p,hz⟩:=I1.tuple hq;refine Ct (show s1.heap.IsTuple a its.toArray from p) ?_;refine⟨s1.heap.objs.size,[s1.heap.objs.size],_,_,H1,rfl,I1.kept (t':=s1.toks) fun b o e=>A6 _ e,kz_ a _,⟨_,AF _ rfl,rfl,rfl⟩,fun b hb=> ?_,q⟩;have e:b=s1.heap.objs.size:=by simpa using hb
 subst e;exact I1.fpOk (AA _) (I1.hok.fresh (AA _))
theorem jE_ {pins:List (Addr×Obj)}{σ:St}{H:Hp}{s:Shared}{R:It->Hp->Prop}{E:Value->Shared->Prop}{lo hi:Int}{t u v:Tok}{tk:Nat} (I:Inv X pins σ H s) (h1: -(2^62)<=lo) (h2:lo<2^62) (h3: -(2^62)<=hi) (h4:hi<2^62)
  (q:R (Itr lo (hi-lo).toNat) H):wpAny (model X.prog X.w) X.A (pyIter (.ref s.heap.objs.size)) (PIE X pins σ tg R) E {s with heap:=s.heap.push {cls:= .type "range",data:= .fields #[.int lo t, .int hi u, .int 1 v]},toks:=tk}:=by
 refine wpAny_pyIter_range (IsRange.new ..) (small_one h1 h2 h3 h4) ?_;have I1:Inv X pins σ H {s with heap:=s.heap.push {cls:= .type "range",data:= .fields #[.int lo t, .int hi u, .int 1 v]},toks:=tk}:=I.kept fun b o e=>A6 _ e;refine⟨(s.heap.push {cls:= .type "range",data:= .fields #[.int lo t, .int hi u, .int 1 v]}).objs.size,[(s.heap.push {cls:= .type "range",data:= .fields #[.int lo t, .int hi u, .int 1 v]}).objs.size],_,_,H,rfl,
  I1.kept (t':=tk) fun b o e=>A6 _ e,kA_ _ lo (hi-lo).toNat, ?_,fun b hb=> ?_,q⟩
 .have e1:lo+((0:Nat):Int)*1=lo:=by simp
  have e2:(((hi-lo).toNat:Nat):Int)-((0:Nat):Int)=Builtin.Range.rangeSize lo hi 1:=by rw [rangeSize_one];split<;>lia
  show IsRangeIter _ _ (lo+((0:Nat):Int)*1) ((((hi-lo).toNat:Nat):Int)-((0:Nat):Int)) 1;rw [e1,e2];exact AF _ rfl
 .have e:b=(s.heap.push {cls:= .type "range",data:= .fields #[.int lo t, .int hi u, .int 1 v]}).objs.size:=by simpa using hb
  subst e;exact I1.fpOk (AA _) (I1.hok.fresh (AA _))
def ul_ (ta:TA):TI:=fun σ H R=>ta σ H fun vs H1=>∃j:Int,vs=[.int j]/\-(2^62)<=j/\j<2^62/\R (Itr 0 j.toNat) H1
def uk_ (ta:TA):TI:=fun σ H R=>ta σ H fun vs H1=>∃i j:Int,vs=[.int i, .int j]/\(-(2^62)<=i/\i<2^62/\-(2^62)<=j/\j<2^62)/\R (Itr i (j-i).toNat) H1
theorem cC_ {a:Expr}{ta:TA}{p pos:Pos} (hg:Gl X "range") (hm:X.mg "range"=none) (ha:PA X [a] ta) (hs:starEach [a] X.env=[(false,eval a X.env)]:=by rfl):PI X tg (.Call (.Name "range" p) [a] [] pos) (ul_ ta):=by
 intro pins s σ H R I h;refine Call_ (cK_ I hg hm boot_range (BH (thn (ha pos pins s σ H _ I h) fun us s1 ⟨vs,H1,I1,r1,q1⟩=> ?_) hs rfl));obtain⟨j,e,q1,q2,q⟩:=q1;subst e;cases r1 with
 |cons r rr=>
  cases rr;obtain⟨t,rfl⟩:=r;exact call_range_1 (jE_ I1 (by lia) (by lia) q1 q2 (by simpa using q))
theorem bv_ {a b:Expr}{ta:TA}{p pos:Pos} (hg:Gl X "range") (hm:X.mg "range"=none) (ha:PA X [a,b] ta) (hs:starEach [a,b] X.env=[(false,eval a X.env),(false,eval b X.env)]:=by rfl) (hs2:starEach [b] X.env=[(false,eval b X.env)]:=by rfl):
  PI X tg (.Call (.Name "range" p) [a,b] [] pos) (uk_ ta):=by
 intro pins s σ H R I h;refine Call_ (cK_ I hg hm boot_range (BH (thn (ha pos pins s σ H _ I h) fun us s1 ⟨vs,H1,I1,r1,q1⟩=> ?_) (by rw [hs,hs2]) (by rw [hs2];rfl)));obtain⟨i,j,e,⟨q1,q2,q3,q4⟩,q⟩:=q1;subst e;cases r1 with
 |cons r rr=>
  cases rr with
  |cons r' rr=>
   cases rr;obtain⟨t,rfl⟩:=r;obtain⟨t',rfl⟩:=r';exact call_range_2 (jE_ I1 q1 q2 q3 q4 q)
def uQ_ (wi:TI) (g:TG) (tb:TS):TS:=fun D σ H=>wi σ H fun J H1=>∃Wq:Nat->Nat->St->Hp->Prop,(∃m,Wq 0 m σ H1)/\∀i m σ H,Wq i m σ H->
 (J.stop i H/\D.nx σ H)\/(J.go i H/\∃N:St->Hp->Prop,(∀σ' H',N σ' H'->∃m',m'<m/\Wq (i+1) m' σ' H')/\∀x H',J.yld i H x H'->g x σ H' fun σ2 H2=>tb {D with nx:=N,ct:=N,bk:=D.nx} σ2 H2)
def hj_ (fp:List Addr) (h:Heap):List (Addr×Obj):=fp.filterMap fun b=>(h.get? b).map fun o=>(b,o)
theorem cR_ {fp:List Addr}{h:Heap}{b:Addr}{o:Obj} (hb:b∈fp) (e:h.get? b=some o):(b,o)∈hj_ fp h:=DB.mpr ⟨b,hb,by rw [e];rfl⟩
theorem mo_ {fp:List Addr}{h:Heap}{p:Addr×Obj} (hp:p∈hj_ fp h):p.1∈fp/\h.get? p.1=some p.2:=by
 obtain⟨b,hb,e⟩:=DB.mp hp;cases q:h.get? b with
 |none=>rw [q] at e;cases e
 |some o=>
  rw [q] at e;have e':(b,o)=p:=Ae e;subst e';exact⟨hb,q⟩
theorem Inv.pinned {pins:List (Addr×Obj)}{σ:St}{H:Hp}{s:Shared}{fp:List Addr} (I:Inv X pins σ H s) (hf:∀b∈fp,ip_ X pins H b) (ho:∀b∈fp,∃o,s.heap.get? b=some o/\∀v,o.data≠ .cell v):Inv X (pins++hj_ fp s.heap) σ H s:=
 I.pins_of fun p hp=>(Bd.mp hp).elim (fun z=>I.pin p (BB _ z)) fun z=>by
  obtain⟨hb,e⟩:=mo_ z;obtain⟨f0,f1,f2,_⟩:=hf p.1 hb;obtain⟨o,e',d⟩:=ho p.1 hb;rw [e] at e';cases e';exact⟨e,f0,f1,f2,d⟩
theorem Inv.unpinned {pins pl:List (Addr×Obj)}{σ:St}{H:Hp}{s:Shared} (I:Inv X (pins++pl) σ H s):Inv X pins σ H s:=I.pins_of fun p hp=>I.pin p (BB _ (List.mem_append_left _ hp))
theorem aD_ {iter:Expr}{body:List Stmt}{wi:TI}{g:TG}{tb:TS}{pos:Pos} (hp:PassesOwn (model X.prog X.w) X.A X.env X.xe) (hc:X.calm=true) (hi:PI X tg iter wi) (hg:PG X tg g) (hb:PSs X body tb)
  (hs:∀x,foldedSetIterable iter X.env x=pure x:=by intro _;rfl):PS X (.For tg iter body [] pos) (uQ_ wi g tb):=by
 intro pins s σ H D I h;refine wpAny_For (thn (hi pins s σ H _ I h) fun v s1 h1=>thn h1 fun itv s2 h2=> ?_) hs;obtain⟨it,fp,tn,J,H2,e,I2,T,st2,f2,Wq,⟨m0,w0⟩,turn⟩:=h2;subst e;have stat:∀{H':Hp},(∀b∈fp,H' b=none)->∀b∈fp,ip_ X pins H' b:=fun hn b hb=>⟨hn b hb,(f2 b hb).2⟩;refine codeAny_forLoop_any (fun n s'=>∃i σ' H',Inv X pins σ' H' s'/\tn i s'.heap/\(∀b∈fp,H' b=none)/\Wq i n σ' H') ?_ m0 ⟨0,σ,H2,I2,st2,fun b hb=>(f2 b hb).1,w0⟩;rintro n s3 ⟨i,σ3,H3,I3,st3,fr3,w3⟩;rcases turn i n σ3 H3 w3 with⟨stop,qn⟩|⟨go,N,hN,step⟩
 .refine DD hp (thn (T.done X rfl rfl rfl hc i pins s3 σ3 H3 X.xe I3 (stat fr3) st3 stop) fun r s4 ⟨hr,I4⟩=> ?_);subst hr;exact wpAny_execs_nil ⟨σ3,H3,I4,qn⟩
 .refine DD hp (thn (T.item X rfl rfl rfl hc i pins s3 σ3 H3 X.xe I3 (stat fr3) st3 go) fun r s4 ⟨u,hr,h4⟩=> ?_);subst hr;refine DD hp (thn h4 fun _ s5 ⟨x,H5,I5,r5,y5,st5,fr5⟩=> ?_);have I5':=I5.pinned (stat fr5) (T.obj _ _ st5);refine DD hp (thn (hg _ s5 σ3 H5 x u _ I5' r5 (step x H5 y5)) fun _ s6 ⟨σ6,H6,I6,q6⟩=> ?_);refine DD hp (thn (hb _ s6 σ6 H6 _ I6 q6) fun f s7 q7=> ?_);have again:∀{σ7:St}{H7:Hp},Inv X (pins++hj_ fp s5.heap) σ7 H7 s7->N σ7 H7->∃m,m<n/\∃i σ' H',Inv X pins σ' H' s7/\tn i s7.heap/\(∀b∈fp,H' b=none)/\Wq i m σ' H':=fun{σ7 H7} I7 n7=>by
   obtain⟨m',hm,w7⟩:=hN σ7 H7 n7;refine⟨m',hm,i+1,σ7,H7,I7.unpinned,T.keep _ _ _ st5 fun b hb o e=>(I7.pin (b,o) (BB _ (BB _ (cR_ hb e)))).1,fun b hb=> ?_,w7⟩;obtain⟨o,e,d⟩:=T.obj _ _ st5 b hb;exact(I7.pin (b,o) (BB _ (BB _ (cR_ hb e)))).2.1
  cases f with
  |next=>obtain⟨σ7,H7,I7,n7⟩:=q7;exact again I7 n7
  |cont=>obtain⟨σ7,H7,I7,n7⟩:=q7;exact again I7 n7
  |brk=>obtain⟨σ7,H7,I7,q7⟩:=q7;exact⟨σ7,H7,I7.unpinned,q7⟩
  |ret v=>obtain⟨x7,σ7,H7,I7,r7,q7⟩:=q7;exact⟨x7,σ7,H7,I7.unpinned,r7,q7⟩
end
theorem aO_ {K:W.Frag}{a:Addr}{xs:List V}{g:TG}{tb:TS}{D:Ends}{σ:St}{H:Hp} (Pv:Nat->St->Hp->Prop) (h0:Pv 0 σ H) (hl:∀i σ H,i<=xs.length->Pv i σ H->SqL K H a xs)
  (hs:∀i x σ H,xs[i]? =some x->Pv i σ H->g x σ H fun σ2 H2=>tb {D with nx:=Pv (i+1),ct:=Pv (i+1),bk:=D.nx} σ2 H2) (hd:∀σ H,Pv xs.length σ H->D.nx σ H):
  ∃Wq:Nat->Nat->St->Hp->Prop,(∃m,Wq 0 m σ H)/\∀i m σ H,Wq i m σ H->
   ((Itl K a).stop i H/\D.nx σ H)\/((Itl K a).go i H/\∃N:St->Hp->Prop,(∀σ' H',N σ' H'->∃m',m'<m/\Wq (i+1) m' σ' H')/\∀x H',(Itl K a).yld i H x H'->g x σ H' fun σ2 H2=>tb {D with nx:=N,ct:=N,bk:=D.nx} σ2 H2):=by
 refine⟨fun i m σ H=>m=xs.length-i/\i<=xs.length/\Pv i σ H,⟨xs.length,by simp,AM _,h0⟩, ?_⟩;rintro i m σ H ⟨rfl,hi,p⟩;have q:=hl i σ H hi p;by_cases hlt:i<xs.length
 .refine .inr ⟨⟨xs,xs[i],q,by simp [hlt]⟩,Pv (i+1),fun σ' H' p'=>⟨xs.length-(i+1),by lia,rfl,hlt,p'⟩,fun x H' y=> ?_⟩;obtain⟨e,y⟩:=y;subst e;exact hs i x σ _ (y xs q) p
 .have e:i=xs.length:=by lia
  subst e;exact .inl ⟨⟨xs,q,AA _⟩,hd σ H p⟩
theorem qQ_ {K:W.Frag}{a:Addr}{xs:List V}{g:TG}{tb:TS}{D:Ends}{σ:St}{H:Hp} (Pv:Nat->St->Hp->Prop) (h0:Pv 0 σ H) (hl:∀i σ H,i<=xs.length->Pv i σ H->SqT K H a xs)
  (hs:∀i x σ H,xs[i]? =some x->Pv i σ H->g x σ H fun σ2 H2=>tb {D with nx:=Pv (i+1),ct:=Pv (i+1),bk:=D.nx} σ2 H2) (hd:∀σ H,Pv xs.length σ H->D.nx σ H):
  ∃Wq:Nat->Nat->St->Hp->Prop,(∃m,Wq 0 m σ H)/\∀i m σ H,Wq i m σ H->
   ((Itt K a).stop i H/\D.nx σ H)\/((Itt K a).go i H/\∃N:St->Hp->Prop,(∀σ' H',N σ' H'->∃m',m'<m/\Wq (i+1) m' σ' H')/\∀x H',(Itt K a).yld i H x H'->g x σ H' fun σ2 H2=>tb {D with nx:=N,ct:=N,bk:=D.nx} σ2 H2):=by
 refine⟨fun i m σ H=>m=xs.length-i/\i<=xs.length/\Pv i σ H,⟨xs.length,by simp,AM _,h0⟩, ?_⟩;rintro i m σ H ⟨rfl,hi,p⟩;have q:=hl i σ H hi p;by_cases hlt:i<xs.length
 .refine .inr ⟨⟨xs,xs[i],q,by simp [hlt]⟩,Pv (i+1),fun σ' H' p'=>⟨xs.length-(i+1),by lia,rfl,hlt,p'⟩,fun x H' y=> ?_⟩;obtain⟨e,y⟩:=y;subst e;exact hs i x σ _ (y xs q) p
 .have e:i=xs.length:=by lia
  subst e;exact .inl ⟨⟨xs,q,AA _⟩,hd σ H p⟩
theorem aU_ {lo:Int}{n:Nat}{g:TG}{tb:TS}{D:Ends}{σ:St}{H:Hp} (Pv:Nat->St->Hp->Prop) (h0:Pv 0 σ H)
  (hs:∀i σ H,i<n->Pv i σ H->g (.int (lo+i)) σ H fun σ2 H2=>tb {D with nx:=Pv (i+1),ct:=Pv (i+1),bk:=D.nx} σ2 H2) (hd:∀σ H,Pv n σ H->D.nx σ H):
  ∃Wq:Nat->Nat->St->Hp->Prop,(∃m,Wq 0 m σ H)/\∀i m σ H,Wq i m σ H->
   ((Itr lo n).stop i H/\D.nx σ H)\/((Itr lo n).go i H/\∃N:St->Hp->Prop,(∀σ' H',N σ' H'->∃m',m'<m/\Wq (i+1) m' σ' H')/\∀x H',(Itr lo n).yld i H x H'->g x σ H' fun σ2 H2=>tb {D with nx:=N,ct:=N,bk:=D.nx} σ2 H2):=by
 refine⟨fun i m σ H=>m=n-i/\i<=n/\Pv i σ H,⟨n,by simp,AM _,h0⟩, ?_⟩;rintro i m σ H ⟨rfl,hi,p⟩;by_cases hlt:i<n
 .refine .inr ⟨hlt,Pv (i+1),fun σ' H' p'=>⟨n-(i+1),by lia,rfl,hlt,p'⟩,fun x H' y=> ?_⟩;obtain⟨e,y⟩:=y;subst e y;exact hs i σ _ hlt p
 .have e:i=n:=by lia
  subst e;exact .inl ⟨AA _,hd σ H p⟩
end L2
namespace L2
open PySem PySem.Spec PyProof.Rows
abbrev R2:=V->V->Hp->VK->Prop
def OpR (X:Cx) (f:Value->Value->Sem Value) (r:R2):Prop:=
 ∀(pins:List (Addr×Obj)) (s:Shared) (σ:St) (H:Hp) (x y:V) (v u:Value) (Q:VK),Inv X pins σ H s->aZ_ x v->aZ_ y u->r x y H Q->
  wpAny (model X.prog X.w) X.A (f v u) (EP X pins σ Q) X.xe s
def UnR (X:Cx) (f:Value->Sem Value) (r:V->Hp->VK->Prop):Prop:=
 ∀(pins:List (Addr×Obj)) (s:Shared) (σ:St) (H:Hp) (x:V) (v:Value) (Q:VK),Inv X pins σ H s->aZ_ x v->r x H Q->
  wpAny (model X.prog X.w) X.A (f v) (EP X pins σ Q) X.xe s
def bQ_ (X:Cx) (f:Value) (r:List V->Hp->VK->Prop):Prop:=
 ∀(pins:List (Addr×Obj)) (s:Shared) (σ:St) (H:Hp) (xs:List V) (us:List Value) (Q:VK),Inv X pins σ H s->aV_ xs us->r xs H Q->
  wpAny (model X.prog X.w) X.A (call f us) (EP X pins σ Q) X.xe s
def tOp (r:R2) (ta tb:TE):TE:=fun σ H Q=>ta σ H fun x H1=>tb σ H1 fun y H2=>r x y H2 Q
def tUn (r:V->Hp->VK->Prop) (ta:TE):TE:=fun σ H Q=>ta σ H fun x H1=>r x H1 Q
def rI (C:Int->Int->Prop) (g:Int->Int->V):R2:=fun x y H Q=>∃i j,x= .int i/\y= .int j/\C i j/\Q (g i j) H
def rI0 (g:Int->Int->V):R2:=fun x y H Q=>∃i j,x= .int i/\y= .int j/\Q (g i j) H
def rU (g:Int->V):V->Hp->VK->Prop:=fun x H Q=>∃i,x= .int i/\Q (g i) H
section
variable {X:Cx}{a b c:Expr}{ta tb tc:TE}{pos:Pos}
theorem uu_ (ha:PE X a ta) (hb:PE X b tb) {pins:List (Addr×Obj)}{s:Shared}{σ:St}{H:Hp}{R:V->V->Hp->Prop} (I:Inv X pins σ H s)
  (h:ta σ H fun x H1=>tb σ H1 fun y H2=>R x y H2) {Q:Value->Shared->Prop}{f:Value->Value->Sem Value}
  (hf:∀v u s2 x y H2,Inv X pins σ H2 s2->aZ_ x v->aZ_ y u->R x y H2->wpAny (model X.prog X.w) X.A (f v u) Q X.xe s2):
  wpAny (model X.prog X.w) X.A (eval a X.env) (fun v s₁=>wpAny (model X.prog X.w) X.A (eval b X.env) (fun u s₂=>wpAny (model X.prog X.w) X.A (f v u) Q X.xe s₂) X.xe s₁) X.xe s:=by
 refine thn (ha pins s σ H _ I h) fun v s1 ⟨x,H1,I1,r1,q1⟩=> ?_;refine thn (hb pins s1 σ H1 _ I1 q1) fun u s2 ⟨y,H2,I2,r2,q2⟩=> ?_;exact hf v u s2 x y H2 I2 r1 r2 q2
theorem al_ {op:Operator}{r:R2} (ho:OpR X (binaryOp op) r) (ha:PE X a ta) (hb:PE X b tb):PE X (.BinOp a op b pos) (tOp r ta tb):=by
 intro pins s σ H Q I h;exact wpAny_BinOp (uu_ ha hb I h fun v u s2 x y H2 I2 rx ry q=>ho pins s2 σ H2 x y v u Q I2 rx ry q)
theorem r2_ {op:UnaryOp}{r:V->Hp->VK->Prop} (ho:UnR X (unaryOp op) r) (ha:PE X a ta):PE X (.UnaryOp op a pos) (tUn r ta):=by
 intro pins s σ H Q I h;exact UnaryOp_ (thn (ha pins s σ H _ I h) fun v s1 ⟨x,H1,I1,r1,q1⟩=>ho pins s1 σ H1 x v Q I1 r1 q1)
theorem opI {f:Value->Value->Sem Value}{C:Int->Int->Prop}{g:Int->Int->Int}
  (rule:∀(i j:Int) (t u:Tok) (s:Shared) (Q:Value->Shared->Prop) (E:Value->Shared->Prop),C i j->Q (.int (g i j) s.toks) {s with toks:=s.toks+1}->wpAny (model X.prog X.w) X.A (f (.int i t) (.int j u)) Q E s):
  OpR X f (rI C fun i j=> .int (g i j)):=by
 intro pins s σ H x y v u Q I rx ry h;obtain⟨i,j,rfl,rfl,hc,q⟩:=h;obtain⟨t,rfl⟩:=rx;obtain⟨t',rfl⟩:=ry;exact rule i j t t' s _ _ hc ⟨.int (g i j),H,I.tok _,⟨_,rfl⟩,q⟩
theorem uE_ {f:Value->Value->Sem Value}{g:Int->Int->Int}
  (rule:∀(i j:Int) (t u:Tok) (s:Shared) (Q:Value->Shared->Prop) (E:Value->Shared->Prop),Q (.int (g i j) s.toks) {s with toks:=s.toks+1}->wpAny (model X.prog X.w) X.A (f (.int i t) (.int j u)) Q E s):
  OpR X f (rI0 fun i j=> .int (g i j)):=by
 intro pins s σ H x y v u Q I rx ry h;obtain⟨i,j,rfl,rfl,q⟩:=h;obtain⟨t,rfl⟩:=rx;obtain⟨t',rfl⟩:=ry;exact rule i j t t' s _ _ ⟨.int (g i j),H,I.tok _,⟨_,rfl⟩,q⟩
theorem te_ {f:Value->Value->Sem Value}{g:Int->Int->Bool}
  (rule:∀(i j:Int) (t u:Tok) (s:Shared) (Q:Value->Shared->Prop) (E:Value->Shared->Prop),Q (.bool (g i j)) s->wpAny (model X.prog X.w) X.A (f (.int i t) (.int j u)) Q E s):
  OpR X f (rI0 fun i j=> .bl (g i j)):=by
 intro pins s σ H x y v u Q I rx ry h;obtain⟨i,j,rfl,rfl,q⟩:=h;obtain⟨t,rfl⟩:=rx;obtain⟨t',rfl⟩:=ry;exact rule i j t t' s _ _ ⟨.bl (g i j),H,I,rfl,q⟩
def vm_ (i j:Int):Prop:=0<j/\j<1073741824
def vl_ (i j:Int):Prop:=0<=j/\j<=1000000/\i.natAbs<2^64
def tj_ (i j:Int):Prop:=(-(2^64)<i/\i<2^64)\/(-(2^64)<j/\j<2^64)
theorem tj_.ok {i j:Int} (h:tj_ i j):IntMulOk i j:=by
 rcases h with⟨h1,h2⟩|⟨h1,h2⟩
 .exact .of_left (intBits_le_64 h1 h2)
 .exact .of_right (intBits_le_64 h1 h2)
theorem aE_:OpR X (binaryOp .Add) (rI0 fun i j=> .int (i+j)):=uE_ fun _ _ _ _ _ _ _ q=>add_int q
theorem aH_:OpR X (binaryOp .Sub) (rI0 fun i j=> .int (i-j)):=uE_ fun _ _ _ _ _ _ _ q=>sub_int q
theorem ba_:OpR X (binaryOp .Mult) (rI tj_ fun i j=> .int (i*j)):=opI fun _ _ _ _ _ _ _ hc q=>mul_int q hc.ok
theorem dZ_:OpR X (binaryOp .FloorDiv) (rI vm_ fun i j=> .int (i/j)):=opI fun i j _ _ _ _ _ hc q=>by
 have h1:(0:Int)<j:=hc.1;have h2:j<1073741824:=hc.2;exact floordiv_int (by lia) (by rw [Int.fdiv_eq_ediv_of_nonneg i (by lia)];exact q) (.inl (PyProof.noPylong_small (by lia)))
theorem jK_:OpR X (binaryOp .Mod) (rI (fun _ j=>0<j) fun i j=> .int (i%j)):=opI fun i j _ _ _ _ _ hc q=>by
 have h1:(0:Int)<j:=hc;exact mod_int' (by lia) (by rw [Int.fmod_eq_emod_of_nonneg i (by lia)];exact q)
theorem fA_:OpR X (binaryOp .Pow) (rI vl_ fun i j=> .int (i^j.toNat)):=opI fun _ _ _ _ _ _ _ hc q=>pow_int_small hc.1 hc.2.1 hc.2.2 q
theorem unI {f:Value->Sem Value}{g:Int->Int}
  (rule:∀(i:Int) (t:Tok) (s:Shared) (Q:Value->Shared->Prop) (E:Value->Shared->Prop),Q (.int (g i) s.toks) {s with toks:=s.toks+1}->wpAny (model X.prog X.w) X.A (f (.int i t)) Q E s):
  UnR X f (rU fun i=> .int (g i)):=by
 intro pins s σ H x v Q I rx h;obtain⟨i,rfl,q⟩:=h;obtain⟨t,rfl⟩:=rx;exact rule i t s _ _ ⟨.int (g i),H,I.tok _,⟨_,rfl⟩,q⟩
theorem oX_:UnR X (unaryOp .USub) (rU fun i=> .int (-i)):=unI fun _ _ _ _ _ q=>neg_int q
end
def uD_:V->V->Bool
 | .non, .non=>true| .non, .int _=>true| .int _, .non=>true| .non, .bl _=>true| .bl _, .non=>true| .non, .str _=>true| .str _, .non=>true
 | .int _, .int _=>true| .bl _, .bl _=>true| .str _, .str _=>true| .byt _, .byt _=>true
 | .int _, .str _=>true| .str _, .int _=>true| .bl _, .str _=>true| .str _, .bl _=>true
 |_,_=>false
def rEq:R2:=fun x y H Q=>uD_ x y=true/\Q (.bl (decide (x=y))) H
def rNe:R2:=fun x y H Q=>uD_ x y=true/\Q (.bl (!decide (x=y))) H
theorem m9_ {i j:Int}:decide (V.int i=V.int j)=(i==j):=by
 rw [Bool.eq_iff_iff];simp
theorem pw_ {i j:Bool}:decide (V.bl i=V.bl j)=(i==j):=by
 rw [Bool.eq_iff_iff];simp
theorem m8_ {i j:Str}:decide (V.str i=V.str j)=(i==j):=by
 rw [Bool.eq_iff_iff];simp
theorem na_ {i j:Array UInt8}:decide (V.byt i=V.byt j)=(i.toList==j.toList):=by
 rw [Bool.eq_iff_iff];cases i;cases j;simp
section
variable {X:Cx}{a b c:Expr}{ta tb tc:TE}{pos:Pos}
theorem aJ_ {pins:List (Addr×Obj)}{σ:St}{H:Hp}{s:Shared}{Q:VK}{k k':Bool} (I:Inv X pins σ H s) (q:Q (.bl k) H) (e:k=k'):EP X pins σ Q (.bool k') s:=by
 subst e;exact⟨.bl k,H,I,rfl,q⟩
theorem iS_:OpR X (compareOp .Eq) rEq:=by
 intro pins s σ H x y v u Q I rx ry h;obtain⟨hs,q⟩:=h;cases x with
 |non=>
  cases rx;cases y with
  |non=>cases ry;exact PySem.EqNone.eq_none_none (aJ_ I q (by simp))
  |bl j=>cases ry;exact PySem.EqNone.eq_none_bool (aJ_ I q (by simp))
  |int j=>obtain⟨t',rfl⟩:=ry;exact PySem.EqNone.eq_none_int (aJ_ I q (by simp))
  |str j=>obtain⟨t',rfl⟩:=ry;exact PySem.EqNone.eq_none_str (aJ_ I q (by simp))
  |_=>exact absurd (show false=true from hs) AT
 |bl i=>
  cases rx;cases y with
  |non=>cases ry;exact PySem.EqNone.eq_bool_none (aJ_ I q (by simp))
  |bl j=>cases ry;exact eq_bool (aJ_ I q pw_)
  |str j=>obtain⟨t',rfl⟩:=ry;exact PySem.EqMixed.eq_bool_str (aJ_ I q (by simp))
  |_=>exact absurd (show false=true from hs) AT
 |int i=>
  obtain⟨t,rfl⟩:=rx;cases y with
  |non=>cases ry;exact PySem.EqNone.eq_int_none (aJ_ I q (by simp))
  |int j=>obtain⟨t',rfl⟩:=ry;exact eq_int (aJ_ I q m9_)
  |str j=>obtain⟨t',rfl⟩:=ry;exact PySem.EqMixed.eq_int_str (aJ_ I q (by simp))
  |_=>exact absurd (show false=true from hs) AT
 |str i=>
  obtain⟨t,rfl⟩:=rx;cases y with
  |non=>cases ry;exact PySem.EqNone.eq_str_none (aJ_ I q (by simp))
  |bl j=>cases ry;exact PySem.EqMixed.eq_str_bool (aJ_ I q (by simp))
  |int j=>obtain⟨t',rfl⟩:=ry;exact PySem.EqMixed.eq_str_int (aJ_ I q (by simp))
  |str j=>obtain⟨t',rfl⟩:=ry;exact eq_str (aJ_ I q m8_)
  |_=>exact absurd (show false=true from hs) AT
 |byt i=>
  obtain⟨t,rfl⟩:=rx;cases y with
  |byt j=>obtain⟨t',rfl⟩:=ry;exact W.eq_bytes (aJ_ I q na_)
  |_=>exact absurd (show false=true from hs) AT
 |_=>cases y<;>exact absurd (show false=true from hs) AT
theorem qi_:OpR X (compareOp .NotEq) rNe:=by
 intro pins s σ H x y v u Q I rx ry h;obtain⟨hs,q⟩:=h;cases x with
 |non=>
  cases rx;cases y with
  |non=>cases ry;exact PySem.EqNone.ne_none_none (aJ_ I q (by simp))
  |bl j=>cases ry;exact PySem.EqNone.ne_none_bool (aJ_ I q (by simp))
  |int j=>obtain⟨t',rfl⟩:=ry;exact PySem.EqNone.ne_none_int (aJ_ I q (by simp))
  |str j=>obtain⟨t',rfl⟩:=ry;exact PySem.EqNone.ne_none_str (aJ_ I q (by simp))
  |_=>exact absurd (show false=true from hs) AT
 |bl i=>
  cases rx;cases y with
  |non=>cases ry;exact PySem.EqNone.ne_bool_none (aJ_ I q (by simp))
  |bl j=>cases ry;exact ne_bool (aJ_ I q (Bb not pw_))
  |str j=>obtain⟨t',rfl⟩:=ry;exact PySem.EqMixed.ne_bool_str (aJ_ I q (by simp))
  |_=>exact absurd (show false=true from hs) AT
 |int i=>
  obtain⟨t,rfl⟩:=rx;cases y with
  |non=>cases ry;exact PySem.EqNone.ne_int_none (aJ_ I q (by simp))
  |int j=>obtain⟨t',rfl⟩:=ry;exact ne_int (aJ_ I q (Bb not m9_))
  |str j=>obtain⟨t',rfl⟩:=ry;exact PySem.EqMixed.ne_int_str (aJ_ I q (by simp))
  |_=>exact absurd (show false=true from hs) AT
 |str i=>
  obtain⟨t,rfl⟩:=rx;cases y with
  |non=>cases ry;exact PySem.EqNone.ne_str_none (aJ_ I q (by simp))
  |bl j=>cases ry;exact PySem.EqMixed.ne_str_bool (aJ_ I q (by simp))
  |int j=>obtain⟨t',rfl⟩:=ry;exact PySem.EqMixed.ne_str_int (aJ_ I q (by simp))
  |str j=>obtain⟨t',rfl⟩:=ry;exact ne_str (aJ_ I q (Bb not m8_))
  |_=>exact absurd (show false=true from hs) AT
 |byt i=>
  obtain⟨t,rfl⟩:=rx;cases y with
  |byt j=>obtain⟨t',rfl⟩:=ry;exact W.ne_bytes (aJ_ I q (Bb not na_))
  |_=>exact absurd (show false=true from hs) AT
 |_=>cases y<;>exact absurd (show false=true from hs) AT
theorem ml_:OpR X (compareOp .Lt) (rI0 fun i j=> .bl (decide (i<j))):=te_ fun _ _ _ _ _ _ _ q=>lt_int q
theorem kT_:OpR X (compareOp .LtE) (rI0 fun i j=> .bl (decide (i<=j))):=te_ fun _ _ _ _ _ _ _ q=>le_int q
theorem oc_:OpR X (compareOp .Gt) (rI0 fun i j=> .bl (decide (j<i))):=te_ fun _ _ _ _ _ _ _ q=>gt_int q
theorem qj_:OpR X (compareOp .GtE) (rI0 fun i j=> .bl (decide (j<=i))):=te_ fun _ _ _ _ _ _ _ q=>ge_int q
theorem aL_ (b:Expr) {op:CmpOp} (h:op≠ .In:=by decide) (h2:op≠ .NotIn:=by decide):behindInMarks op b=false:=by
 have e1:(op==CmpOp.In)=false:=by cases op<;>first|rfl|exact absurd rfl h
 have e2:(op==CmpOp.NotIn)=false:=by cases op<;>first|rfl|exact absurd rfl h2
 cases b<;>simp [behindInMarks,e1,e2]
theorem md_ {op:CmpOp}{r:R2} (ho:OpR X (compareOp op) r) (ha:PE X a ta) (hb:PE X b tb) (hm:behindInMarks op b=false):PE X (.Compare a [op] [b] pos) (tOp r ta tb):=by
 intro pins s σ H Q I h;exact wpAny_Compare1 (uu_ ha hb I h fun v u s2 x y H2 I2 rx ry q=>ho pins s2 σ H2 x y v u Q I2 rx ry q) hm
def tp_ (t:TE):TT:=fun σ H Q=>t σ H fun x H'=>∃k,x= .bl k/\Q k H'
theorem aF_ {op:CmpOp}{r:R2} (ho:OpR X (compareOp op) r) (ha:PE X a ta) (hb:PE X b tb) (hm:behindInMarks op b=false):PT X (.Compare a [op] [b] pos) (tp_ (tOp r ta tb)):=by
 intro pins s σ H Q I h;refine wpAny_isTrue_Compare1 (thn (ha pins s σ H _ I h) fun v s1 ⟨x,H1,I1,r1,q1⟩=>thn (hb pins s1 σ H1 _ I1 q1) fun u s2 ⟨y,H2,I2,r2,q2⟩=>
  thn (ho pins s2 σ H2 x y v u _ I2 r1 r2 q2) fun c s3 ⟨z,H3,I3,r3,k,e,q3⟩=> ?_) hm
 subst e;cases r3;exact Bh ⟨H3,I3,q3⟩
theorem k0_ {xs:List V}{its:List Value} (r:aV_ xs its):(!its.toArray.isEmpty)= !xs.isEmpty:=by
 cases r<;>simp
theorem fH_:(sizeLine:Nat)<2^63:=by rw [Aw];decide
theorem ek_ {x:V}{us:List Value} (r:aV_ [x] us):∃u,us=[u]/\aZ_ x u:=by
 cases r with
 |cons r1 r2=>cases r2;exact⟨_,rfl,r1⟩
theorem ls_ {x y:V}{us:List Value} (r:aV_ [x,y] us):∃u w',us=[u,w']/\aZ_ x u/\aZ_ y w':=by
 cases r with
 |cons r1 r2=>
  cases r2 with
  |cons r3 r4=>cases r4;exact⟨_,_,rfl,r1,r3⟩
theorem nk_ (hc:X.calm=true):bQ_ X (.builtin "min") (fun xs H Q=>∃i j,xs=[.int i, .int j]/\Q (.int (if j<i then j else i)) H):=by
 intro pins s σ H xs us Q I r h;obtain⟨i,j,rfl,q⟩:=h;obtain⟨u,w',rfl,⟨t,rfl⟩,⟨t',rfl⟩⟩:=ls_ r;refine min_two_ints (I.ok.hd hc) fun h' tk k=>⟨_,H,I.kept k, ?_,q⟩;by_cases hj:j<i
 .rw [A7 hj,A7 hj];exact⟨_,rfl⟩
 .rw [A5 hj,A5 hj];exact⟨_,rfl⟩
end
end L2
namespace L2
open PySem PySem.Spec PyProof.Rows
structure ObjM (h:Heap) (x dx C:Addr) (mA:Str->Option Value):Prop where
 obj:h.get? x=some (W.instObj C dx)
 ns:h.Ns1 dx mA
 ne:dx≠x
theorem mz_ {h:Heap}{dx:Addr}{mA:Str->Option Value} (n:h.Ns1 dx mA):∃od,h.get? dx=some od/\∀name,W.lookIn name od=some (mA name):=by
 obtain⟨o,es,ep,ho,hd,hk,_,hm⟩:=n;refine⟨o,ho,fun name=> ?_⟩;have e:=hm name;unfold nsFind findBy at e;rw [<-Array.find?_toList] at e;unfold W.lookIn;rw [hd];dsimp only;split
 .rename_i y q;rw [q] at e;exact Bb some e
 .rename_i q;rw [q] at e;have a:es.toList.any (·.refKey)=false:=by
   rw [List.any_eq_false];intro y hy;obtain⟨z,t,hkey⟩:=hk y (Array.mem_toList_iff.mp hy);simp [DictEntry.refKey,hkey]
  have a':¬es.toList.any (·.refKey)=true:=by rw [a];exact AT
  rw [A5 a'];exact Bb some e
theorem ObjM.look {h:Heap}{x dx C:Addr}{mA:Str->Option Value} (I:ObjM h x dx C mA):∃od,W.InstAt h x (W.instObj C dx) C (some od)/\∀name,W.lookIn name od=some (mA name):=
 let ⟨od,ho,hl⟩:=mz_ I.ns
 ⟨od,⟨I.obj,rfl,rfl,ho⟩,hl⟩
section
variable {prog:Program}{w:World}{A:Around}{E:Value->Shared->Prop}{s:Shared}{K:W.Frag}{x dx C f:Addr}{mA:Str->Option Value}{name:Str}{v:Value}
end
theorem jo_.some_of {v:V}{o:Option Value} (r:jo_ (some v) o):∃u,o=some u/\aZ_ v u:=by
 cases o with
 |none=>exact(show False from r).elim
 |some u=>exact⟨u,rfl,r⟩
section
variable {P:Program}{w:World}{H H':Hp}{h h':Heap}{a C dx:Addr}{fs fs':List (Str×V)}
theorem qK_ (hok:HOk P w H h) (e:H a=some (.ins C dx fs)):∃mA,ObjM h a dx C mA/\(∀f,jo_ (fs.lookup f) (mA f))/\PySem.Within mA (fs.map (·.1))/\fs.length<=1000/\H dx=some (.own a):=by
 obtain⟨d,z,ne,ob,mA,n,r,q⟩:=(show aC_ P w H h a (.ins C dx fs) from hok a _ e);exact⟨mA,⟨ob,n,ne⟩,r,q,z,d⟩
end
structure Cls (K:W.Frag) (C:Addr):Prop where
 pg:W.plainGet K C Str.empty=true
 hd:W.hasDictIn K C=true
 po:W.plainOver K C=true
 sa:W.findIn K (.ref C) "__setattr__"=some (some (.builtin "object.__setattr__"))
theorem Cls.get {K:W.Frag}{C:Addr} (c:Cls K C) (f:Str):W.plainGet K C f=true:=c.pg
section
variable {X:Cx}{pins:List (Addr×Obj)}{σ:St}{H:Hp}{s:Shared}{a C dx:Addr}{fs:List (Str×V)}{f:Str}{v:V}{A:Around}{E:Value->Shared->Prop}
end
section
variable {X:Cx}{o e value:Expr}{f:Str}{pos pos' tpos:Pos}{ta tv:TE}
end
section
variable {X:Cx}{pins:List (Addr×Obj)}{σ:St}{H:Hp}{s:Shared}{A:Around}{E:Value->Shared->Prop}{Q:Value->Shared->Prop}{c:Value}{b:Bool}
inductive TyOf (K:W.Frag) (H:Hp):V->Value->Prop where
 |non:TyOf K H .non (.type "NoneType")
 |bl (x:Bool):TyOf K H (.bl x) (.type "bool")
 |int (i:Int):TyOf K H (.int i) (.type "int")
 |str (x:Str):TyOf K H (.str x) (.type "str")
 |flt (x:UInt64):TyOf K H (.flt x) (.type "float")
 |lst {a:Addr}{xs:List V} (e:H a=some (.lst xs)):TyOf K H (.ref a) (.type "list")
 |frz {a:Addr}{o:Obj}{xs:List V} (e:H a=some (.frz o (.lst xs))):TyOf K H (.ref a) (.type "list")
 |tup {a:Addr}{xs:List V} (e:H a=some (.tup xs)):TyOf K H (.ref a) (.type "tuple")
 |dK {a:Addr}{kvs:List (Key×V)} (e:H a=some (.dK kvs)):TyOf K H (.ref a) (.type "dict")
 |dT {a:Addr}{kvs:List (List Key×V)} (e:H a=some (.dT kvs)):TyOf K H (.ref a) (.type "dict")
 |ins {a C dx:Addr}{fs:List (Str×V)} (e:H a=some (.ins C dx fs)) (cl:Cls K C) (ha:W.findIn K (.ref C) "__class__"=some (some (.builtin "object.__class__")))
   (hn:W.specialIn K (.builtin "object.__class__") "__get__"=some (some (.builtin "getset_descriptor.__get__"))) (htk:W.takesIn K (.builtin "object.__class__")=some true)
   (hm:W.mroIn K C (.type "object")=some true):TyOf K H (.ref a) (.ref C)
theorem mK_ {x:V}{u t:Value} (I:Inv X pins σ H s) (rx:aZ_ x u) (ty:TyOf X.K H x t) (e:W.kitOne X.K t c=some b) (h:∀tk,Q (.bool b) {s with toks:=tk}):
  wpAny (model X.prog X.w) A (call (.builtin "isinstance") [u,c]) Q E s:=by
 cases ty with
 |non=>cases (show u=Value.none from rx);exact BV W.kitx_none I.kIn True.intro e (fun z=>nomatch z) h
 |bl y=>cases (show u=Value.bool y from rx);exact BV W.kitx_bool I.kIn True.intro e (fun z=>nomatch z) h
 |int i=>obtain⟨t,q⟩:=(show∃t,u=Value.int i t from rx);cases q;exact BV W.kitx_int I.kIn True.intro e (fun z=>nomatch z) h
 |str y=>obtain⟨t,q⟩:=(show∃t,u=Value.str y t from rx);cases q;exact BV W.kitx_str I.kIn True.intro e (fun z=>nomatch z) h
 |flt y=>obtain⟨t,q⟩:=(show∃t,u=Value.float y t from rx);cases q;exact BV W.kitx_float I.kIn True.intro e (fun z=>nomatch z) h
 | @lst a xs ea=>
  cases (show u=Value.ref a from rx);obtain⟨_,_,n,_,h1⟩:=(show aC_ X.prog X.w H s.heap a (.lst xs) from I.hok a _ ea);exact BV W.kitx_list I.kIn ⟨_,h1,rfl⟩ e (fun z=>nomatch z) h
 | @frz a ob xs ea=>
  cases (show u=Value.ref a from rx);obtain⟨_,_,_,n,_,h1⟩:=(show aC_ X.prog X.w H s.heap a (.frz ob (.lst xs)) from I.hok a _ ea);exact BV W.kitx_list I.kIn ⟨_,h1,rfl⟩ e (fun z=>nomatch z) h
 | @tup a xs ea=>
  cases (show u=Value.ref a from rx);obtain⟨_,_,_,p⟩:=(show aC_ X.prog X.w H s.heap a (.tup xs) from I.hok a _ ea);obtain⟨o,h1,h2,_⟩:=p;exact BV W.kitx_tuple I.kIn ⟨o,h1,h2⟩ e (fun z=>nomatch z) h
 | @dK a kvs ea=>
  cases (show u=Value.ref a from rx);obtain⟨_,_,vs,_,p⟩:=(show aC_ X.prog X.w H s.heap a (.dK kvs) from I.hok a _ ea);obtain⟨o,es,ep,h1,h2,_⟩:=p;exact BV W.kitx_dict I.kIn ⟨o,h1,h2.1⟩ e (fun z=>nomatch z) h
 | @dT a kvs ea=>
  cases (show u=Value.ref a from rx);obtain⟨_,_,xs,_,o,es,ep,h1,h2,_⟩:=(show aC_ X.prog X.w H s.heap a (.dT kvs) from I.hok a _ ea);exact BV W.kitx_dict I.kIn ⟨o,h1,h2.1⟩ e (fun z=>nomatch z) h
 | @ins a C dx fs ea cl ha hn htk hm=>
  cases (show u=Value.ref a from rx);obtain⟨mA,O,_⟩:=qK_ I.hok ea;obtain⟨od,J,_⟩:=O.look;exact BV (W.kitx_own (cl.get _) cl.hd ha hn htk hm) I.kIn J e (fun z=>nomatch z) h
end
end L2
namespace L2
open PySem PySem.Spec PyProof.Rows
structure Room (k:Nat) (A:Around):Prop where
 hd:A.handled=none
 dp:A.depth+3*k+5<recursionLimit
 un:A.units+16*k+200<cLine
theorem Room.mono {j k:Nat}{A:Around} (r:Room k A) (h:j<=k):Room j A:=⟨r.hd,by have:=r.dp;lia,by have:=r.un;lia⟩
theorem Room.deeper {k:Nat}{A:Around} (r:Room (k+1) A) (env:Env):Room k (A.deeper env):=
 ⟨r.hd,by have:=r.dp;show A.depth+1+3*k+5<_;lia,by have:=r.un;show A.units+3+16*k+200<_;lia⟩
theorem Room.depth {k:Nat}{A:Around} (r:Room k A):A.depth<recursionLimit:=by have:=r.dp;lia
theorem Room.units {k:Nat}{A:Around} (r:Room k A):A.units+64<cLine:=by have:=r.un;lia
def uB_:TA:=fun _ H Q=>Q [] H
def rB_ (ta:TE) (tr:TA):TA:=fun σ H Q=>ta σ H fun x H1=>tr σ H1 fun xs H2=>Q (x::xs) H2
section
variable {X:Cx}{e:Expr}{es:List Expr}{te:TE}{t:TA}{pos:Pos}
theorem ab_:PA X [] uB_:=fun _ _ _ _ H Q I h=>Calls.spliced_nil ⟨[],H,I, .nil,h⟩
theorem aa_ (ha:PE X e te) (hr:PA X es t) (hs:starEach (e::es) X.env=(false,eval e X.env)::starEach es X.env:=by rfl):PA X (e::es) (rB_ te t):=by
 intro pos pins s σ H Q I h;rw [hs];show wpAny _ _ (spliced ((false,eval e X.env)::backTo pos (starEach es X.env))) _ _ s;refine Cu (thn (ha pins s σ H _ I h) fun u s1 ⟨x,H1,I1,r1,q1⟩=> ?_);exact thn (hr pos pins s1 σ H1 _ I1 q1) fun us s2 ⟨xs,H2,I2,r2,q2⟩=>⟨x::xs,H2,I2, .cons r1 r2,q2⟩
end
abbrev Sp:=List V->Hp->VK->XK->Prop
abbrev CXT:=List Env->Hp->Shared->XK->Value->Shared->Prop
structure Env0 (P:Program) (w:World) (K:W.Frag) (mg:Str->Option Value) (base:Heap) (A:Around) (outer:List Env) (s:Shared) (H:Hp):Prop where
 frames:A.frames=some outer
 mod:Mod K mg base
 bs:∀b o,base.get? b=some o->s.heap.get? b=some o/\H b=none
 bsz:base.objs.size<=s.heap.objs.size
 funs:s.heap.FunFrames base outer
 frf:∀b∈frs outer,H b=none
 hok:HOk P w H s.heap
 bare:AllBare s.gens
def CE (outer:List Env) (P:Program) (w:World) (H:Hp) (s:Shared) (Q:VK) (u:Value) (s':Shared):Prop:=
 ∃v H',s'.os=s.os/\AllBare s'.gens/\Un (frs outer) [] H H' s.heap s'.heap/\HOk P w H' s'.heap/\aZ_ v u/\Q v H'
def CR (CX:CXT) (outer:List Env) (P:Program) (w:World) (H:Hp) (s:Shared) (Q:VK) (E:XK) (r:Result) (s':Shared):Prop:=
 match r with
 | .ok (.ret u)=>CE outer P w H s Q u s'
 | .ok _=>False
 | .error e=>CX outer H s E e s'
structure FnOk (P:Program) (w:World) (K:W.Frag) (mg:Str->Option Value) (base:Heap) (CX:CXT) (k:Nat) (f:Addr) (fd:FuncData) (ps:List Str) (sp:Sp):Prop where
 len:∀vs H Q E,sp vs H Q E->vs.length=ps.length
 run:∀(A:Around) (outer:List Env) (s:Shared) (H:Hp) (args:Args) (us:List Value) (vs:List V) (Q:VK) (E:XK),Room k A->Env0 P w K mg base A outer s H->BindsTo s fd args (ps.zip us)->aV_ vs us->sp vs H Q E->
  codeAny (model P w) A (.call (.ref f) args) (CR CX outer P w H s Q E) s
theorem FnOk.imp {P:Program}{w:World}{K:W.Frag}{mg:Str->Option Value}{base:Heap}{CX:CXT}{k:Nat}{f:Addr}{fd:FuncData}{ps:List Str}{sp sp':Sp} (F:FnOk P w K mg base CX k f fd ps sp)
  (h:∀vs H Q E,sp' vs H Q E->sp vs H Q E):FnOk P w K mg base CX k f fd ps sp':=
 ⟨fun vs H Q E q=>F.len vs H Q E (h _ _ _ _ q),fun A outer s H args us vs Q E hr he hb hv hs=>F.run A outer s H args us vs Q E hr he hb hv (h _ _ _ _ hs)⟩
section
variable {X:Cx}{pins:List (Addr×Obj)}{σ:St}{H:Hp}{s s':Shared}
theorem Inv.env0 (I:Inv X pins σ H s):Env0 X.prog X.w X.K X.mg X.base X.A X.stack s H:=
 ⟨I.ok.frames,I.ok.mod,I.bs,B6 I.ok.bsz I.sz,I.stack,I.stkFree,I.hok,I.bare⟩
theorem Inv.after {Q:VK}{u:Value} (I:Inv X pins σ H s) (h:CE X.stack X.prog X.w H s Q u s'):EP X pins σ Q u s':=by
 obtain⟨v,H',os,bare,un,hok,r,q⟩:=h;obtain⟨hh,g,d,t,os'⟩:=s';obtain rfl:os'=s.os:=os;exact⟨v,H',I.call (h':=hh) (g':=g) (d':=d) (t':=t) (ch:=[]) un hok bare (fun b z=>absurd z (by simp)),r,q⟩
end
def tA_ (sp:Sp) (dvs:List V) (E:XK) (t:TA):TE:=fun σ H Q=>t σ H fun vs H1=>sp (vs++dvs) H1 Q E
def li_ (K:W.Frag) (fd:FuncData) (ps:List Str) (ds:List Value):Prop:=
 ∀(s:Shared) (us:List Value),K.In s.heap->(us++ds).length=ps.length->BindsTo s fd ⟨us,[]⟩ (ps.zip (us++ds))
theorem li_.all {K:W.Frag}{fd:FuncData}{ps:List Str} (h:∀us:List Value,us.length=ps.length->bindArgs fd ⟨us,[]⟩=pure (ps.zip us)):li_ K fd ps []:=fun s us _ hl=>by
 rw [Av] at hl⊢;exact .of_eq (h us hl)
def ej_ (CX:CXT) (X:Cx) (E:XK):Prop:=∀(pins:List (Addr×Obj)) (σ:St) (H:Hp) (s:Shared) (e:Value) (s':Shared),Inv X pins σ H s->CX X.stack H s E e s'->X.xe e s'
section
variable {X:Cx}{CX:CXT}{k:Nat}{f C:Addr}{fd:FuncData}{ps:List Str}{sp:Sp}{dvs:List V}{ds:List Value}{E:XK}{x m:Str}{p pos apos:Pos}{e o:Expr}{es:List Expr}{ta:TE}{t:TA}
theorem rQ_ {pins:List (Addr×Obj)}{σ:St}{H:Hp}{s:Shared}{Q:VK}{us:List Value}{vs:List V} (F:FnOk X.prog X.w X.K X.mg X.base CX k f fd ps sp) (hr:Room k X.A) (hb:li_ X.K fd ps ds) (hd:aV_ dvs ds) (hx:ej_ CX X E)
  (I:Inv X pins σ H s) (r:aV_ vs us) (h:sp (vs++dvs) H Q E):wpAny (model X.prog X.w) X.A (call (.ref f) us) (EP X pins σ Q) X.xe s:=by
 have r2:aV_ (vs++dvs) (us++ds):=r.append hd;have hl:(us++ds).length=ps.length:=by rw [<-r2.length];exact F.len _ _ _ _ h
 refine wpAny_call (DG (F.run X.A X.stack s H ⟨us,[]⟩ (us++ds) (vs++dvs) Q E hr I.env0 (hb s us I.kIn hl) r2 h) fun r s' hq=> ?_);cases r with
 |error e=>exact hx pins σ H s e s' I hq
 |ok fl=>
  cases fl with
  |ret u=>exact I.after hq
  |next=>exact False.elim hq
  |brk=>exact False.elim hq
  |cont=>exact False.elim hq
theorem ah_ (F:FnOk X.prog X.w X.K X.mg X.base CX k f fd ps sp) (hr:Room k X.A) (hg:Gl X x) (hm:X.mg x=some (.ref f)) (hk:W.keepIn X.K (.ref f)=true) (hb:li_ X.K fd ps ds) (hd:aV_ dvs ds) (hx:ej_ CX X E)
  (ha:PA X (e::es) t) (hdb:(x==("__debug__":Str))=false:=by decide) (he:starEach (e::es) X.env=(false,eval e X.env)::starEach es X.env:=by rfl) (hpl:(backTo pos (starEach es X.env)).any (·.1)=false:=by rfl):
  PE X (.Call (.Name x p) (e::es) [] pos) (tA_ sp dvs E t):=by
 intro pins s σ H Q I h;refine Ba (gz_ I hg hm ?_ hdb);refine W.callWith_K (h₀:=X.base) I.ok.mod.kin hk (thn (ha pos pins s σ H _ I h) fun us s1 ⟨vs,H1,I1,r,q⟩=>⟨I1.kIn, ?_⟩) he hpl;exact rQ_ F hr hb hd hx I1 r q
end
section
variable {X:Cx}{CX:CXT}{k:Nat}{f C:Addr}{fd:FuncData}{ps ks:List Str}{sp:Sp}{E:XK}{x m:Str}{p pos apos kpos:Pos}{e o:Expr}{es:List Expr}{kws:List Keyword}{te ta:TE}{t tk:TA}{nm:Option Str}
variable {g:List Value->List Value->List Value}{gV:List V->List V->List V}
end
structure FnScope (N P:List Str) (sc:Scope):Prop where
 kind:sc.kind= .function
 co:sc.isCoroutine=false
 gen:sc.isGenerator=false
 nd:N.Nodup
 pre:N.take P.length=P
 par:∀x∈P,sc.names.lookup x=some .local\/sc.names.lookup x=some .cell
 nofree:∀y∈sc.names,y.2≠ .free
theorem ia_ {kindOf:Str->Option NameKind}{x:Str}:∀{binds:List (Str×Value)}{m:Str->Option Value},(∀v,(x,v)∉binds)->bindL kindOf binds m x=m x
 |[],_,_=>rfl
 |(n,v)::r,m,h=>by
  unfold bindL;rw [ia_ fun w hw=>h w (AR _ hw)];split
  .have:x≠n:=by rintro rfl;exact h v AX
   simp [this]
  .rfl
theorem ic_ {kindOf:Str->Option NameKind}{x:Str}:∀{binds:List (Str×Value)}{m:Str->Option Value},(∀v,(x,v)∉binds)->bindC kindOf binds m x=m x
 |[],_,_=>rfl
 |(n,v)::r,m,h=>by
  unfold bindC;rw [ic_ fun w hw=>h w (AR _ hw)];split
  .rfl
  .have:x≠n:=by rintro rfl;exact h v AX
   simp [this]
theorem ib_ {kindOf:Str->Option NameKind}{x:Str}{v:Value}:∀{P:List Str}{vs:List Value}{i:Nat}{m:Str->Option Value},P.Nodup->P[i]? =some x->vs[i]? =some v->kindOf x=some .local->
  bindL kindOf (P.zip vs) m x=some v
 |[],_,_,_,_,h,_,_=>by simp at h
 |_::_,[],_,_,_,_,h,_=>by simp at h
 |p::P,w::vs,0,m,nd,h1,h2,hk=>by
  simp at h1 h2;subst h1;subst h2;show bindL kindOf ((p,w)::P.zip vs) m p=_;unfold bindL;rw [ia_ fun v hv=>(BN.mp nd).1 (List.of_mem_zip hv).1,A7 hk];simp
 |p::P,w::vs,i+1,m,nd,h1,h2,hk=>by
  show bindL kindOf ((p,w)::P.zip vs) m x=_;unfold bindL;exact ib_ (i:=i) (BN.mp nd).2 (by simpa using h1) (by simpa using h2) hk
theorem id_ {kindOf:Str->Option NameKind}{x:Str}{v:Value}:∀{P:List Str}{vs:List Value}{i:Nat}{m:Str->Option Value},P.Nodup->P[i]? =some x->vs[i]? =some v->kindOf x≠some .local->
  bindC kindOf (P.zip vs) m x=some v
 |[],_,_,_,_,h,_,_=>by simp at h
 |_::_,[],_,_,_,_,h,_=>by simp at h
 |p::P,w::vs,0,m,nd,h1,h2,hk=>by
  simp at h1 h2;subst h1;subst h2;show bindC kindOf ((p,w)::P.zip vs) m p=_;unfold bindC;rw [ic_ fun v hv=>(BN.mp nd).1 (List.of_mem_zip hv).1,A5 hk];simp
 |p::P,w::vs,i+1,m,nd,h1,h2,hk=>by
  show bindC kindOf ((p,w)::P.zip vs) m x=_;unfold bindC;exact id_ (i:=i) (BN.mp nd).2 (by simpa using h1) (by simpa using h2) hk
def start (N:List Str) (vs:List V):St:=vs.map some++List.replicate (N.length-vs.length) none
def lj_ (CX:CXT) (P:Program) (w:World) (K:W.Frag) (mg:Str->Option Value) (base:Heap) (N:List Str) (qual:Str) (scope:Scope) (f:Addr) (cd:Value) (A:Around) (outer:List Env) (s:Shared) (H:Hp) (E:XK):Cx where
 prog:=P
 w:=w
 K:=K
 mg:=mg
 base:=base
 A:=A.deeper (envOfC qual scope s.heap.objs.size f cd)
 N:=N
 s₀:=s
 H₀:=H
 env:=envOfC qual scope s.heap.objs.size f cd
 outer:=outer
 stack:=envOfC qual scope s.heap.objs.size f cd::outer
 ex:=[]
 calm:=true
 fn:=fun _=>true
 pn:=[]
 xe:=fun e s'=>wpAny (model P w) (A.deeper (envOfC qual scope s.heap.objs.size f cd)) (leaving (envOfC qual scope s.heap.objs.size f cd) e) (fun _ s''=>CX outer H s E e s'') (fun e' s''=>CX outer H s E e' s'') s'
theorem kv_ {sc:Scope}{n:Nat}{x:Str} (h:sc.names.lookup x=some .cell):∃c,(cellsFrom n sc.names []).lookup x=some c:=by
 have q:=W.cellsFrom_some sc.names n [] (.inl h);exact Option.isSome_iff_exists.mp q
theorem mM_ {CX:CXT}{P:Program}{w:World}{K:W.Frag}{mg:Str->Option Value}{base:Heap}{N ps:List Str}{qual:Str}{scope:Scope}{f:Addr}{cd:Value}{A:Around}{outer:List Env}{s s1:Shared}{H:Hp}{E:XK}{us:List Value}{vs:List V}
  (S:FnScope N ps scope) (hd:A.handled=none) (e0:Env0 P w K mg base A outer s H) (hl:vs.length=ps.length) (r:aV_ vs us)
  (x:InCallC s s.heap.objs.size (bindL (envOfC qual scope s.heap.objs.size f cd).kindOf (ps.zip us) fun _=>none) (cellsFrom (s.heap.objs.size+1) scope.names []) (bindC (envOfC qual scope s.heap.objs.size f cd).kindOf (ps.zip us) fun _=>none) s1):
  Inv (lj_ CX P w K mg base N qual scope f cd A outer s H E) [] (start N vs) H s1:=by
 have hpl:ps.length<=N.length:=by have:=Bb List.length S.pre;rw [B4] at this;lia
 obtain⟨h1,tk,rfl,hk⟩:=x.done;have noA:∀b:Addr,b∉(lj_ CX P w K mg base N qual scope f cd A outer s H E).ex:=fun b z=>absurd (show b∈([]:List Addr) from z) (by simp);refine⟨⟨e0.mod,S.kind,rfl,rfl,AA _,fun y z c h1 h2=> ?_,fun y hy=> ?_,fun y c _ h=> ?_,fun _=>hd,Around.frames_deeper e0.frames, .inr ⟨rfl,rfl⟩,fun b z=>absurd z (noA b),e0.bs,e0.bsz,fun b _ _=>noA b,fun b z=>absurd z (noA b),e0.funs,e0.frf⟩,
  rfl,e0.bare,Un.kept hk,⟨_,x.toInCall.ns,fun i y v h1 h2 h3=> ?_⟩,fun y c h=>⟨_,x.cell y c h⟩,e0.hok.fresh (AA _),fun y c h=> ?_,fun p hp=>absurd (show p∈([]:List (Addr×Obj)) from hp) (by simp),e0.hok.kept hk, ?_⟩
 .exact name_of_addr x.apart (C8 h1) (C8 h2)
 .have hy:scope.names.lookup y=some .cell\/scope.names.lookup y=some .free:=hy;rcases hy with hy|hy
  .exact kv_ hy
  .exact absurd rfl (S.nofree _ (C8 hy))
 .exact An (x.above y c (C8 h))
 .have hi:i<vs.length:=by
   unfold start at h2;by_cases hi:i<vs.length
   .exact hi
   .rw [CM (by simpa using hi)] at h2;rw [List.getElem?_replicate] at h2;split at h2<;>cases h2
  have ha:vs[i]? =some v:=by
   unfold start at h2;rw [List.getElem?_append_left (by simpa using hi),A9] at h2;cases e:vs[i]? with
   |none=>rw [e] at h2;cases h2
   |some a=>rw [e] at h2;cases h2;rfl
  obtain⟨u,hu,rv⟩:=r.get ha;have hp:ps[i]? =some y:=by
   rw [<-S.pre,List.getElem?_take_of_lt (by lia)];exact h1
  have ndP:ps.Nodup:=by rw [<-S.pre];exact S.nd.sublist (List.take_sublist _ _)
  refine⟨u,rv, ?_⟩;rcases S.par y (AU hp) with k|k
  .exact .inl ⟨k,ib_ ndP hp hu k⟩
  .obtain⟨c,e⟩:=kv_ (n:=s.heap.objs.size+1) k;refine .inr ⟨.inl k,c,e, ?_⟩;have q:=x.cell y c e;rw [id_ ndP hp hu (by show scope.names.lookup y≠_;rw [k];decide)] at q;exact q
 .exact e0.hok.fresh (An (x.above y c (C8 h)))
 .unfold start;show _=N.length;rw [AC,A1,BC];lia
theorem sC_ {CX:CXT}{P:Program}{w:World}{K:W.Frag}{mg:Str->Option Value}{base:Heap}{k:Nat}{f:Addr}{name qual:Str}{params:Arguments}{body:List Stmt}{scope:Scope}{dV kV doc pm cdv ct oc:Value}{an od:Option Addr}
  {osl:Array (Option Value)}{N ps:List Str}{sp:Sp} (lk:K.lookup f=some ⟨oc,od, .func (W.fnOf name qual params body scope dV kV doc pm an cdv ct),osl⟩) (hcd:W.codeIn K cdv qual=true) (S:FnScope N ps scope)
  (len:∀vs H Q E,sp vs H Q E->vs.length=ps.length)
  (hbody:∀(A:Around) (outer:List Env) (s:Shared) (H:Hp) (vs:List V) (Q:VK) (E:XK),Room k (A.deeper (envOfC qual scope s.heap.objs.size f cdv))->sp vs H Q E->
   ∃t,PSs (lj_ CX P w K mg base N qual scope f cdv A outer s H E) body t/\t {nx:=fun _ H'=>Q .non H',rt:=Q} (start N vs) H):
  FnOk P w K mg base CX (k+1) f (W.fnOf name qual params body scope dV kV doc pm an cdv ct) ps sp:=by
 refine⟨len,fun A outer s H args us vs Q E hr e0 hb r hsp=> ?_⟩;have hl:=len _ _ _ _ hsp;have KX:K.In s.heap:=e0.mod.kin.keeps fun b o e=>(e0.bs b o e).1;have lim:s.heap.NoLimit:=e0.mod.nolimit.keeps fun b o e=>(e0.bs b o e).1;have hkind:∀y∈ps.zip us,scope.names.lookup y.1=some .local\/(scope.names.lookup y.1=some .cell/\((cellsFrom (s.heap.objs.size+1) scope.names []).lookup y.1).isSome=true):=fun⟨n,v⟩ hy=>by
  rcases S.par n (List.of_mem_zip hy).1 with q|q
  .exact .inl q
  .exact .inr ⟨q,W.cellsFrom_some _ _ _ (.inl q)⟩
 refine codeAny_call_function hr.depth (KX _ _ lk) rfl S.co S.gen rfl (W.codeRec_of KX hcd) (hb _ _ _ _ ?_);refine wpAny_newFunctionEnv_cells S.kind hkind fun env he s1 x=> ?_;subst he;refine⟨lim.keeps x.toInCall.keep,codeAny_func ?_⟩;obtain⟨t,ht,hq⟩:=hbody A outer s H vs Q E (hr.deeper _) hsp;have I:Inv (lj_ CX P w K mg base N qual scope f cdv A outer s H E) [] (start N vs) H s1:=mM_ S hr.hd e0 hl r x;refine BU (ht [] s1 (start N vs) H _ I hq) (fun fl s' hs=> ?_) fun e s' hs=>hs;have fin:∀{σ':St}{H':Hp}{v:V}{u:Value},Inv (lj_ CX P w K mg base N qual scope f cdv A outer s H E) [] σ' H' s'->aZ_ v u->Q v H'->CE outer P w H s Q u s':=
  fun{σ' H' v u} J rv q=>⟨v,H',J.os,J.bare,J.base,J.hok,rv,q⟩
 cases fl with
 |ret u=>
  obtain⟨v,σ',H',J,rv,q⟩:=hs;exact fin J rv q
 |next=>
  obtain⟨σ',H',J,q⟩:=hs;exact fin (v:=V.non) (u:=Value.none) J rfl q
 |brk=>
  obtain⟨_,_,_,q⟩:=hs;exact False.elim q
 |cont=>
  obtain⟨_,_,_,q⟩:=hs;exact False.elim q
end L2
namespace L2
open PySem PySem.Spec PyProof.Rows
section
variable {X:Cx}{x:Str}{p pos:Pos}{e:Expr}{es:List Expr}{t:TA}{id T:String}{r:List V->Hp->VK->Prop}
def tCB (r:List V->Hp->VK->Prop) (t:TA):TE:=fun σ H Q=>t σ H fun vs H1=>r vs H1 Q
theorem az_ (hc:bQ_ X (.builtin id) r) (hg:Gl X x) (hm:X.mg x=none) (hv:bootBuiltins x=some (.builtin id)) (ha:PA X (e::es) t) (hn:x≠"__name__":=by decide) (hdb:(x==("__debug__":Str))=false:=by decide)
  (he:starEach (e::es) X.env=(false,eval e X.env)::starEach es X.env:=by rfl) (hpl:(backTo pos (starEach es X.env)).any (·.1)=false:=by rfl):PE X (.Call (.Name x p) (e::es) [] pos) (tCB r t):=by
 intro pins s σ H Q I h;refine Ba (cK_ I hg hm hv ?_ hn hdb);exact Cz (thn (ha pos pins s σ H _ I h) fun us s1 ⟨vs,H1,I1,r1,q1⟩=>hc pins s1 σ H1 vs us Q I1 r1 q1) he hpl
theorem hk_ (hc:bQ_ X (.type T) r) (hg:Gl X x) (hm:X.mg x=none) (hv:bootBuiltins x=some (.type T)) (ha:PA X (e::es) t) (hn:x≠"__name__":=by decide) (hdb:(x==("__debug__":Str))=false:=by decide)
  (he:starEach (e::es) X.env=(false,eval e X.env)::starEach es X.env:=by rfl) (hpl:(backTo pos (starEach es X.env)).any (·.1)=false:=by rfl):PE X (.Call (.Name x p) (e::es) [] pos) (tCB r t):=by
 intro pins s σ H Q I h;refine Ba (cK_ I hg hm hv ?_ hn hdb);exact BH (thn (ha pos pins s σ H _ I h) fun us s1 ⟨vs,H1,I1,r1,q1⟩=>hc pins s1 σ H1 vs us Q I1 r1 q1) he hpl
end
end L2
namespace HT
open PySem PyProof.Rows
section
open PySem.SeqAt
open PySem.AutoSeq1 (wpAny_loadPart')
open PySem.MeetsSeq PySem.MeetsSeq2 PySem.MeetsSeq3
end
section
variable {prog:Program}{w:World}{A:Around}{E:Value->Shared->Prop}{s:Shared}
theorem cat_tup {t b:Addr}{vs ws:List Value}{Q:Value->Shared->Prop} (ht:IsTup s.heap t vs.toArray) (hb:IsTup s.heap b ws.toArray) (hv:vs≠[])
  (h1:ws=[]->Q (.ref t) s) (h2:ws≠[]->Q (.ref s.heap.objs.size) {s with heap:=s.heap.push {cls:= .type "tuple",data:= .seq (vs++ws).toArray}})
  (hsz:vs.length+ws.length<=sizeLine):wpAny (model prog w) A (binaryOp .Add (.ref t) (.ref b)) Q E s:=by
 obtain⟨⟨cls,dd,data,sl⟩,ho,hc,n,hd⟩:=id ht;obtain⟨⟨cls2,dd2,data2,sl2⟩,ho2,hc2,n2,hd2⟩:=id hb;simp only at hc hd hc2 hd2;subst hc hd hc2 hd2;have e:vs.toArray++ws.toArray=(vs++ws).toArray:=by simp
 by_cases hw:ws=[]
 .exact concat_meets ⟨_,ho,rfl⟩ ⟨_,ho2,rfl⟩ noFill_tuple_add seq_tuple_add PySem.F.slot_tuple_add PySem.F.entry_tuple_add (PySem.F.args_tuple_add_2 _ _)
   (tuple_addW1 t b vs.toArray ws.toArray n n2 dd dd2 sl sl2 (by simpa using hv) (by simp [hw])) ⟨ho,ho2,h1 hw⟩
 .refine concat_meets ⟨_,ho,rfl⟩ ⟨_,ho2,rfl⟩ noFill_tuple_add seq_tuple_add PySem.F.slot_tuple_add PySem.F.entry_tuple_add (PySem.F.args_tuple_add_2 _ _)
   (tuple_addW2 t b vs.toArray ws.toArray n n2 dd dd2 sl sl2 (by simpa using hv) (by simpa using hw) (by rw [AE,AE];exact hsz)) ⟨ho,ho2, ?_⟩
  rw [e];exact h2 hw
def sIx (n d:Nat):Option Int->Nat
 |none=>d
 |some v=>if v<0 then(v+(n:Int)).toNat else min v.toNat n
theorem sIx_none (n d:Nat):sIx n d none=d:=rfl
theorem sIx_nat (n d k:Nat):sIx n d (some (k:Int))=min k n:=by
 show(if(k:Int)<0 then((k:Int)+(n:Int)).toNat else min (k:Int).toNat n)=min k n;rw [A5 (by lia),Ap]
theorem rP_ (n d:Nat) (hd:d<=n) (o:Option Int):sIx n d o<=n:=by
 cases o with
 |none=>exact hd
 |some v=>
  show(if v<0 then(v+(n:Int)).toNat else min v.toNat n)<=n;by_cases hv:v<0
  .rw [A7 hv];lia
  .rw [A5 hv];exact Nat.min_le_right _ _
theorem nh_ (v:Int) (n d:Nat):(if v<0 then max (v+(n:Int)) 0 else min v (n:Int))=((sIx n d (some v):Nat):Int):=by
 show(if v<0 then max (v+(n:Int)) 0 else min v (n:Int))=(((if v<0 then(v+(n:Int)).toNat else min v.toNat n):Nat):Int);by_cases hv:v<0
 .simp only [A7 hv];lia
 .simp only [A5 hv];lia
theorem le_ (lo hi:Option Int) (n:Nat):Builtin.Slice.sliceAdjust lo hi 1 (n:Int)=(((sIx n 0 lo:Nat):Int),((sIx n n hi:Nat):Int)):=by
 have h1:¬((1:Int)<0):=by lia
 unfold Builtin.Slice.sliceAdjust;simp only [h1,Am];refine Prod.ext ?_ ?_
 .cases lo with
  |none=>rfl
  |some v=>exact nh_ v n 0
 .cases hi with
  |none=>rfl
  |some v=>exact nh_ v n n
theorem kR_ (i j:Nat):Builtin.Slice.slicePlaces (i:Int) (j:Int) 1=j-i:=by
 unfold Builtin.Slice.slicePlaces;have h1:(1:Int)>0:=by lia
 simp only [h1,C2,Int.ediv_one];split<;>lia
theorem fw_ {v:Value}{o:Option Int}{Q:Option Int->Shared->Prop} (p:IsPart v o) (h:Q o s):wpAny (model prog w) A (Builtin.Slice.slicePartIndex v) Q E s:=by
 cases p with
 |none=>exact slicePart_none h
 |int i t=>exact slicePart_int h
theorem cj_ {sl:Addr}{vl vu:Value}{lo hi:Option Int}{n:Nat}{Q:Int×Int×Nat->Shared->Prop} (hs:s.heap.IsSliceOf sl vl vu .none) (pl:IsPart vl lo) (pu:IsPart vu hi)
  (h:Q (((sIx n 0 lo:Nat):Int),1,sIx n n hi-sIx n 0 lo) s):wpAny (model prog w) A (Builtin.Slice.sliceApplied (.ref sl) (pure (n:Int))) Q E s:=by
 obtain⟨os,hos,hcs,hds⟩:=id hs;unfold Builtin.Slice.sliceApplied Builtin.Slice.sliceFields;refine A0 (A0 (BY hos hds (x:=vl) rfl (A0 (BY hos hds (x:=vu) rfl (A0 (BY hos hds (x:= .none) rfl (A2 ?_)))))));refine A0 (slicePart_none ?_);show wpAny _ _ (if((1:Int)==0)=true then _ else _) _ _ s;rw [A5 (by decide)];refine A0 (fw_ pl (A0 (fw_ pu (A0 (A2 ?_)))));show wpAny _ _ (match Builtin.Slice.sliceAdjust lo hi 1 (n:Int) with|(lo,hi)=>pure (lo,(1:Int),Builtin.Slice.slicePlaces lo hi 1)) _ _ s;rw [le_ lo hi n];show wpAny _ _ (pure (((sIx n 0 lo:Nat):Int),(1:Int),Builtin.Slice.slicePlaces ((sIx n 0 lo:Nat):Int) ((sIx n n hi:Nat):Int) 1)) _ _ s;rw [kR_];exact A2 h
theorem n3_ (xs:Array Value) (i k:Nat):((List.range k).filterMap fun(m:Nat)=>xs[((i:Int)+(m:Int)*1).toNat]?).toArray=((xs.toList.drop i).take k).toArray:=by
 have e:(fun(m:Nat)=>xs[((i:Int)+(m:Int)*1).toNat]?)=fun m=>xs[i+m]? :=by
  funext m
  have:((i:Int)+(m:Int)*1).toNat=i+m:=by lia
  rw [this]
 rw [e];have:=pick_run xs i k;rw [List.filterMap_map] at this;have e2:((fun x=>xs[x]?)∘fun x=>i+x)=fun m=>xs[i+m]? :=rfl;rw [e2] at this;rw [this]
theorem getItem_tuple_cut {t sl:Addr}{items:Array Value}{vl vu:Value}{lo hi:Option Int}{Q:Value->Shared->Prop} (ht:IsTup s.heap t items) (hs:s.heap.IsSliceOf sl vl vu .none) (pl:IsPart vl lo) (pu:IsPart vu hi)
  (hw:¬(sIx items.size 0 lo=0/\sIx items.size items.size hi=items.size))
  (h:Q (.ref s.heap.objs.size) {s with heap:=s.heap.push {cls:= .type "tuple",data:= .seq ((items.toList.drop (sIx items.size 0 lo)).take (sIx items.size items.size hi-sIx items.size 0 lo)).toArray}})
  (hsz:items.size<=sizeLine):wpAny (model prog w) A (getItem (.ref t) (.ref sl)) Q E s:=by
 have htake:sizeOk (.seq ((items.toList.drop (sIx items.size 0 lo)).take (sIx items.size items.size hi-sIx items.size 0 lo)).toArray):=by
  show((items.toList.drop (sIx items.size 0 lo)).take (sIx items.size items.size hi-sIx items.size 0 lo)).toArray.size<=sizeLine;rw [AE,B4,List.length_drop,Ah];lia
 have hj:sIx items.size items.size hi<=items.size:=rP_ _ _ (AA _) hi;obtain⟨os,hos,hcs,hds⟩:=id hs;have hTs:s.TypeIs (.ref sl) "slice":=⟨os,hos,hcs⟩;unfold getItem;try with_reducible refine Ar ?_
 first|refine A0 (A2 ?_)|skip
 refine A0 (wpAny_sequenceKey ht.typeIs (by decide) ?_);refine A0 (Ax (name:=Str.ofString "__getitem__") ht.typeIs BK
  (Ab BK ht.typeIs entry_tuple_getitem ?_ (args_tuple_getitem _ _)))
 show wpAny _ _ (Builtin.Tuple.tupleItemsOf (.ref t)>>=_) _ _ s;refine A0 (tupleItemsOf_ ht ?_);refine A0 (DF hTs ?_);rw [A7 (by decide)];refine A0 (cj_ hs pl pu ?_);have hno:¬((((sIx items.size 0 lo:Nat):Int)==0&&(1:Int)==1&&(sIx items.size items.size hi-sIx items.size 0 lo)==items.size)=true):=by
  intro q;rw [AN,AN] at q;have q1:((sIx items.size 0 lo:Nat):Int)=0:=eq_of_beq q.1.1;have q2:sIx items.size items.size hi-sIx items.size 0 lo=items.size:=eq_of_beq q.2;exact hw ⟨by lia,by lia⟩
 show wpAny _ _ (if(((sIx items.size 0 lo:Nat):Int)==0&&(1:Int)==1&&(sIx items.size items.size hi-sIx items.size 0 lo)==items.size)=true then _ else _) _ _ s;rw [A5 hno,n3_];first
  |exact A0 (m:=Builtin.Tuple.tupleExact _) (Aq (A2 ⟨_,rfl,A2 h⟩) htake)
  |exact A0 (m:=Builtin.Tuple.tupleExact _) (Aq (A0 (A2 (A2 ⟨_,rfl,A2 h⟩))) htake)
  |exact A0 (A0 (m:=Builtin.Tuple.tupleExact _) (Aq (A2 (A2 ⟨_,rfl,A2 h⟩)) htake))
  |exact A0 (A0 (m:=Builtin.Tuple.tupleExact _) (Aq (A2 ⟨_,rfl,A2 h⟩) htake))
end
end HT
namespace L2
open PySem PySem.Spec PyProof.Rows
abbrev TO:=St->Hp->(Option Int->Hp->Prop)->Prop
def PO (X:Cx) (e:Option Expr) (t:TO):Prop:=
 ∀(pins:List (Addr×Obj)) (s:Shared) (σ:St) (H:Hp) (Q:Option Int->Hp->Prop),Inv X pins σ H s->t σ H Q->
  wpAny (model X.prog X.w) X.A (evalPart e X.env) (fun u s'=>∃o H',Inv X pins σ H' s'/\IsPart u o/\Q o H') X.xe s
def pP_:TO:=fun _ H Q=>Q none H
def tr_ (t:TE):TO:=fun σ H Q=>t σ H fun x H1=>∃i,x= .int i/\Q (some i) H1
theorem ea_ {ns:List Int}:∀{us:List Value},aV_ (ns.map V.int) us->IntsAre us ns:=by
 induction ns with
 |nil=>intro us r;rw [D8] at r;cases r;exact .nil
 |cons n ns ih=>
  intro us r;rw [AK] at r;cases r with
  |cons r1 r2=>
   obtain⟨t,e⟩:=r1;subst e;exact .cons n t (ih r2)
section
variable {X:Cx}{e:Expr}{te:TE}{lo hi:Option Expr}{tl th:TO}{pos p2:Pos}
theorem iO_:PO X none pP_:=by
 intro pins s σ H Q I h;rw [evalPart_none];exact A2 ⟨none,H,I, .none,h⟩
theorem iN_ (h:PE X e te):PO X (some e) (tr_ te):=by
 intro pins s σ H Q I hw;rw [evalPart_some];refine thn (h pins s σ H _ I hw) fun u s1 ⟨x,H1,I1,r1,q1⟩=> ?_;obtain⟨i,rfl,q⟩:=q1;obtain⟨t,rfl⟩:=r1;exact⟨some i,H1,I1, .int i t,q⟩
def SlR (X:Cx) (r:V->Option Int->Option Int->Hp->VK->Prop):Prop:=
 ∀(pins:List (Addr×Obj)) (s:Shared) (σ:St) (H:Hp) (x:V) (v vl vu:Value) (lo hi:Option Int) (sl:Addr) (Q:VK),Inv X pins σ H s->aZ_ x v->s.heap.IsSliceOf sl vl vu .none->IsPart vl lo->IsPart vu hi->r x lo hi H Q->
  ∃T id,typeLookup (.type T) "__getitem__"=pure (some (.builtin id))/\s.TypeIs v T/\wpAny (model X.prog X.w) X.A (getItem v (.ref sl)) (EP X pins σ Q) X.xe s
def tSl (r:V->Option Int->Option Int->Hp->VK->Prop) (te:TE) (tl th:TO):TE:=fun σ H Q=>te σ H fun x H1=>tl σ H1 fun l H2=>th σ H2 fun u H3=>r x l u H3 Q
theorem f9_ {r:V->Option Int->Option Int->Hp->VK->Prop} (hr:SlR X r) (he:PE X e te) (hl:PO X lo tl) (hu:PO X hi th):PE X (.Subscript e (.Slice lo hi none p2) pos) (tSl r te tl th):=by
 intro pins s σ H Q I h;refine Subscript_ (thn (he pins s σ H _ I h) fun v s1 ⟨x,H1,I1,r1,q1⟩=> ?_);refine wpAny_Slice (thn (hl pins s1 σ H1 _ I1 q1) fun vl s2 ⟨l,H2,I2,pl,q2⟩=>thn (hu pins s2 σ H2 _ I2 q2) fun vu s3 ⟨u,H3,I3,pu,q3⟩=> ?_);rw [evalPart_none];refine A2 ?_;have I4:Inv X pins σ H3 {s3 with heap:=s3.heap.push {cls:= .type "slice",data:= .fields #[vl,vu, .none]}}:=I3.kept (t':=s3.toks) fun b ob q=>A6 _ q;obtain⟨T,id,hT,ht,hg⟩:=hr pins {s3 with heap:=s3.heap.push {cls:= .type "slice",data:= .fields #[vl,vu, .none]}} σ H3 x v vl vu l u s3.heap.objs.size Q I4 r1 (Heap.IsSliceOf.new ..) pl pu q3;show wpAny (model X.prog X.w) X.A (subscriptTail e (.Slice lo hi none p2) v (.ref s3.heap.objs.size)) (EP X pins σ Q) X.xe {s3 with heap:=s3.heap.push {cls:= .type "slice",data:= .fields #[vl,vu, .none]}};exact tail_any (ops:=[.ref s3.heap.objs.size,v]) ht hT hg (by with_unfolding_all rfl)
def kr_ (xs:List V) (lo hi:Option Int):List V:=(xs.drop (HT.sIx xs.length 0 lo)).take (HT.sIx xs.length xs.length hi-HT.sIx xs.length 0 lo)
theorem fa_ (xs:List V) (lo hi:Option Int):(kr_ xs lo hi).length<=xs.length:=by
 unfold kr_;rw [B4,List.length_drop];lia
def u2_ (K:W.Frag):V->Option Int->Option Int->Hp->VK->Prop:=fun x lo hi H Q=>∃a xs,x= .ref a/\SqT K H a xs/\
 ¬(HT.sIx xs.length 0 lo=0/\HT.sIx xs.length xs.length hi=xs.length)/\∀p,H p=none->Q (.ref p) (upd H p (.tup (kr_ xs lo hi)))
theorem rN_:SlR X (u2_ X.K):=by
 intro pins s σ H x v vl vu lo hi sl Q I rx hs pl pu h;obtain⟨a,xs,rfl,hx,hw,q⟩:=h;cases rx;obtain⟨its,r,ht,hz⟩:=I.tuple hx;have hlen:its.toArray.size=xs.length:=by rw [AE];exact r.length.symm
 refine⟨"tuple",_,BK.lookup,ht.typeIs, ?_⟩;refine HT.getItem_tuple_cut ht hs pl pu (by rw [hlen];exact hw) ?_ (by rw [hlen];exact hz);rw [hlen];refine⟨.ref s.heap.objs.size,_,I.laid (t':=s.toks) (o:= .tup (kr_ xs lo hi)) (fun b ob q=>A6 _ q) (AA _) ?_,rfl,q _ (I.hok.fresh (AA _))⟩;exact⟨B6 (fa_ xs lo hi) hz,_,(r.drop (HT.sIx xs.length 0 lo)).take (HT.sIx xs.length xs.length hi-HT.sIx xs.length 0 lo),IsTup.new _ _⟩
def t9_ (K:W.Frag):R2:=fun x y H Q=>∃a b xs ys,x= .ref a/\y= .ref b/\SqT K H a xs/\SqT K H b ys/\xs≠[]/\xs.length+ys.length<=sizeLine/\
 (ys=[]->Q (.ref a) H)/\(ys≠[]->∀p,H p=none->Q (.ref p) (upd H p (.tup (xs++ys))))
theorem aV_.nil_iff {xs:List V}{us:List Value} (r:aV_ xs us):us=[]↔xs=[]:=by
 cases r with
 |nil=>simp
 |cons _ _=>simp
theorem qk_:OpR X (binaryOp .Add) (t9_ X.K):=by
 intro pins s σ H x y v u Q I rx ry h;obtain⟨a,b,xs,ys,rfl,rfl,ha,hb,hx,hz,q1,q2⟩:=h;cases rx;cases ry;obtain⟨its,r1,p1,_⟩:=I.tuple ha;obtain⟨its2,r2,p2,_⟩:=I.tuple hb;refine HT.cat_tup p1 p2 (fun z=>hx (r1.nil_iff.mp z)) (fun z=>⟨.ref a,H,I,rfl,q1 (r2.nil_iff.mp z)⟩) (fun z=> ?_) (by rw [<-r1.length,<-r2.length];exact hz);refine⟨.ref s.heap.objs.size,_,I.laid (t':=s.toks) (o:= .tup (xs++ys)) (fun b ob q=>A6 _ q) (AA _) ?_,rfl,q2 (fun w=>z (r2.nil_iff.mpr w)) _ (I.hok.fresh (AA _))⟩;exact⟨by rw [AC];exact hz,_,r1.append r2,IsTup.new _ _⟩
end
end L2
namespace L2
open PySem PySem.Spec PyProof.Rows
def ixN (n:Nat) (i:Int):Option Nat:=if 0<=i then(if i<n then some i.toNat else none) else if -(n:Int)<=i then some (i+n).toNat else none
def atI {α:Type} (xs:List α) (i:Int):Option α:=(ixN xs.length i).bind fun j=>xs[j]?
theorem mI_ {n:Nat}{i:Int}{j:Nat} (h:ixN n i=some j):seqIndex? i n=some j/\j<n/\-(n:Int)<=i/\i<n:=by
 unfold ixN at h;by_cases h0:0<=i
 .rw [A7 h0] at h;by_cases h1:i<n
  .rw [A7 h1] at h;have e:i.toNat=j:=Ae h;exact⟨by rw [seqIndex_of h0 h1,e],by lia,by lia,h1⟩
  .rw [A5 h1] at h;cases h
 .rw [A5 h0] at h;by_cases h1: -(n:Int)<=i
  .rw [A7 h1] at h;have e:(i+n).toNat=j:=Ae h;exact⟨by rw [seqIndex_neg (by lia) h1,e],by lia,h1,by lia⟩
  .rw [A5 h1] at h;cases h
theorem nt_ {α:Type}{xs:List α}{i:Int}{v:α} (h:atI xs i=some v):∃j,seqIndex? i xs.length=some j/\xs[j]? =some v/\j<xs.length/\-(xs.length:Int)<=i/\i<xs.length:=by
 unfold atI at h;cases e:ixN xs.length i with
 |none=>rw [e] at h;cases h
 |some j=>
  rw [e] at h;obtain⟨h1,h2,h3,h4⟩:=mI_ e;exact⟨j,h1,h,h2,h3,h4⟩
theorem ns_ {α:Type}{xs:List α}{j:Nat}{v:α} (h:xs[j]? =some v):atI xs (j:Int)=some v:=by
 have hj:j<xs.length:=(AD.mp h).1;have e:ixN xs.length (j:Int)=some j:=by
  unfold ixN;rw [A7 (by lia),A7 (by lia)];simp
 unfold atI;rw [e];exact h
def q8_ (b:Expr):Prop:=∀o i,subscripted b false o i=operate [o,i] (getItem o i)
def IxR (X:Cx) (r:R2):Prop:=
 ∀(value slice:Expr) (pins:List (Addr×Obj)) (s:Shared) (σ:St) (H:Hp) (x y:V) (v u:Value) (Q:VK),Inv X pins σ H s->aZ_ x v->aZ_ y u->r x y H Q->
  subscripted slice false v u=operate [v,u] (getItem v u)->wpAny (model X.prog X.w) X.A (subscriptTail value slice v u) (EP X pins σ Q) X.xe s
def MtR (X:Cx) (id:String) (r:V->List V->Hp->VK->Prop):Prop:=
 ∀(pins:List (Addr×Obj)) (s:Shared) (σ:St) (H:Hp) (x:V) (xs:List V) (v:Value) (us:List Value) (Q:VK),Inv X pins σ H s->aZ_ x v->aV_ xs us->r x xs H Q->
  wpAny (model X.prog X.w) X.A (call (.builtin id) (v::us)) (EP X pins σ Q) X.xe s
section
variable {X:Cx}{a b:Expr}{ta tb:TE}{pos:Pos}
theorem bp_ {r:R2} (hr:IxR X r) (ha:PE X a ta) (hb:PE X b tb) (hs:q8_ b):PE X (.Subscript a b pos) (tOp r ta tb):=by
 intro pins s σ H Q I h;exact Subscript_ (uu_ ha hb I h fun v u s2 x y H2 I2 rx ry q=>hr a b pins s2 σ H2 x y v u Q I2 rx ry q (hs _ _))
def u7_ (K:W.Frag):R2:=fun x y H Q=>∃p xs i v,x= .ref p/\y= .int i/\SqL K H p xs/\atI xs i=some v/\Q v H
def u6_ (K:W.Frag):R2:=fun x y H Q=>∃p xs i v,x= .ref p/\y= .int i/\SqT K H p xs/\atI xs i=some v/\Q v H
theorem dm_:IxR X (u7_ X.K):=by
 intro value slice pins s σ H x y v u Q I rx ry h hs;obtain⟨p,xs,i,z,rfl,rfl,hq,he,q⟩:=h;cases rx;obtain⟨t,rfl⟩:=ry;obtain⟨its,r,pl,hz⟩:=I.list hq;obtain⟨j,h1,h2,h3,h4,h5⟩:=nt_ he;obtain⟨w,ew,rw'⟩:=r.get h2;have hl:=r.length;have hn:=fH_;have fin:EP X pins σ Q w s:=⟨z,H,I,rw',q⟩;by_cases h0:0<=i
 .have hj:i.toNat=j:=by
   rw [seqIndex_of h0 h5] at h1;exact Ae h1
  exact item_listR pl.isList h0 (by lia) (by rw [hj];simpa using ew) fin hs
 .have hj:(i+(its.toArray.size:Int)).toNat=j:=by
   rw [seqIndex_neg (by lia) h4] at h1;rw [AE,<-hl];exact Ae h1
  exact subscriptTail_builtinR (x:=w) pl.isList.typeIs slot_list_getitem.lookup
   (wpAny_getItem_list_neg (Q:=fun r s'=>r=w/\EP X pins σ Q r s') pl.isList (by lia) (by rw [AE]<;>lia) (by lia) (by rw [hj];simpa using ew) ⟨rfl,fin⟩) hs
theorem su_:IxR X (u6_ X.K):=by
 intro value slice pins s σ H x y v u Q I rx ry h hs;obtain⟨p,xs,i,z,rfl,rfl,hq,he,q⟩:=h;cases rx;obtain⟨t,rfl⟩:=ry;obtain⟨its,r,pl,hz⟩:=I.tuple hq;obtain⟨j,h1,h2,h3,h4,h5⟩:=nt_ he;obtain⟨w,ew,rw'⟩:=r.get h2;have hl:=r.length;have hn:=fH_;have fin:EP X pins σ Q w s:=⟨z,H,I,rw',q⟩;exact subscriptTail_builtinR (x:=w) pl.typeIs slot_tuple_getitem.lookup
  (getItem_tuple (j:=j) (Q:=fun r s'=>r=w/\EP X pins σ Q r s') pl (by lia) (by lia) (by rw [AE,<-hl];exact h1) (by simpa using ew) ⟨rfl,fin⟩) hs
theorem kX_ (its:List Value) (n j:Nat) (u:Value):Obj.mapSeq (·.setIfInBounds j u) {cls:= .type "list",data:= .seq its.toArray n}={cls:= .type "list",data:= .seq (its.set j u).toArray n}:=by
 simp [Obj.mapSeq]
theorem Inv.lst {pins:List (Addr×Obj)}{σ:St}{H:Hp}{s:Shared}{p:Addr}{xs:List V} (I:Inv X pins σ H s) (h:H p=some (.lst xs)):
  ∃(its:List Value) (n:Nat),aV_ xs its/\s.heap.get? p=some {cls:= .type "list",data:= .seq its.toArray n}/\xs.length<=sizeLine:=by
 obtain⟨z,its,n,r,e⟩:=I.hok p _ h;exact⟨its,n,r,e,z⟩
theorem Inv.lstUpd {pins:List (Addr×Obj)}{σ:St}{H:Hp}{s:Shared}{p:Addr}{xs ys:List V}{its its':List Value}{n n':Nat}{f:Obj->Obj} (I:Inv X pins σ H s) (h:H p=some (.lst xs))
  (ho:s.heap.get? p=some {cls:= .type "list",data:= .seq its.toArray n}) (hf:f {cls:= .type "list",data:= .seq its.toArray n}={cls:= .type "list",data:= .seq its'.toArray n'}) (r:aV_ ys its') (hz:ys.length<=sizeLine) (t:Nat):
  Inv X pins σ (upd H p (.lst ys)) {s with heap:=s.heap.update p f,toks:=t}:=by
 have e:(s.heap.update p f).get? p=some {cls:= .type "list",data:= .seq its'.toArray n'}:=by
  rw [C5 f ho (by rw [hf]<;>rfl),hf]
 refine I.write (x:=p) (e:=p) (by rw [h];trivial) (.inl rfl) (fun b u hb q=>(Heap.get?_update_other _ _ (C9 hb)).trans q) ⟨_,e⟩ ?_;exact⟨hz,its',n',r,e⟩
def t6_:V->V->V->Hp->(Hp->Prop)->Prop:=fun o i v H Q=>∃p xs k j,o= .ref p/\i= .int k/\H p=some (.lst xs)/\ixN xs.length k=some j/\Q (upd H p (.lst (xs.set j v)))
theorem fX_:ux_ X t6_:=by
 intro pins s σ H o i v ov iv u Q I ro ri rv h;obtain⟨p,xs,k,j,rfl,rfl,hp,hj,q⟩:=h;cases ro;obtain⟨t,rfl⟩:=ri;obtain⟨its,n,r,ho,hz⟩:=I.lst hp;obtain⟨h1,h2,h3,h4⟩:=mI_ hj;have hl:=r.length;have hn:=fH_;have I':Inv X pins σ (upd H p (.lst (xs.set j v))) {s with heap:=s.heap.update p (Obj.mapSeq (·.setIfInBounds j u))}:=
  I.lstUpd hp ho (kX_ its n j u) (r.set rv j) (by rw [Bn];exact hz) s.toks
 by_cases h0:0<=k
 .have hk:k.toNat=j:=by
   rw [seqIndex_of h0 h4] at h1;exact Ae h1
  exact W.ki_setAt ho h0 (by lia) (by rw [AE,<-hl];exact h4) (by rw [hk];exact⟨_,I',q⟩)
 .have hk:(k+(its.toArray.size:Int)).toNat=j:=by
   rw [seqIndex_neg (by lia) h3] at h1;rw [AE,<-hl];exact Ae h1
  exact W.ki_setBack ho (by lia) (by rw [AE,<-hl];exact h3) (by lia) (by rw [hk];exact⟨_,I',q⟩)
theorem g6_ (lo hi:Option Int) (n:Nat):(sliceBounds lo hi none n).1=((HT.sIx n 0 lo:Nat):Int)/\(sliceBounds lo hi none n).2.1=((HT.sIx n n hi:Nat):Int)/\(sliceBounds lo hi none n).2.2=1:=by
 refine⟨?_, ?_,rfl⟩
 .cases lo with
  |none=>simp [sliceBounds,HT.sIx]
  |some i=>
   simp only [sliceBounds,HT.sIx,Option.getD_none,show(1:Int)>0 by decide,C2];by_cases h:i<0
   .simp only [h,C2]<;>lia
   .simp only [h,Am]<;>lia
 .cases hi with
  |none=>simp [sliceBounds,HT.sIx]
  |some i=>
   simp only [sliceBounds,HT.sIx,Option.getD_none,show(1:Int)>0 by decide,C2];by_cases h:i<0
   .simp only [h,C2]<;>lia
   .simp only [h,Am]<;>lia
theorem fW_ (its:List Value) (lo hi:Option Int):slicePick its.toArray lo hi none=((its.drop (HT.sIx its.length 0 lo)).take (HT.sIx its.length its.length hi-HT.sIx its.length 0 lo)).toArray:=by
 obtain⟨h1,h2,h3⟩:=g6_ lo hi its.toArray.size;unfold slicePick;rw [h1,h2,h3];simp only [sliceRange_one,pick_run,AE]<;>rfl
def u3_ (K:W.Frag):V->Option Int->Option Int->Hp->VK->Prop:=fun x lo hi H Q=>∃a xs,x= .ref a/\SqL K H a xs/\∀p,H p=none->Q (.ref p) (upd H p (.lst (kr_ xs lo hi)))
theorem pZ_:SlR X (u3_ X.K):=by
 intro pins s σ H x v vl vu lo hi sl Q I rx hs pl pu h;obtain⟨a,xs,rfl,hx,q⟩:=h;cases rx;obtain⟨its,r,ht,hz⟩:=I.list hx;have hlen:=r.length;refine⟨"list",_,slot_list_getitem.lookup,ht.isList.typeIs, ?_⟩;refine wpAny_getItem_list_slice ht.isList hs pl pu .none (by simp) ?_ (by rw [AE]<;>lia)
 rw [fW_,<-hlen];refine⟨.ref s.heap.objs.size,_,I.laid (t':=s.toks) (o:= .lst (kr_ xs lo hi)) (fun b ob q=>A6 _ q) (AA _) ?_,rfl,q _ (I.hok.fresh (AA _))⟩;exact⟨B6 (fa_ xs lo hi) hz,_,0,(r.drop (HT.sIx xs.length 0 lo)).take (HT.sIx xs.length xs.length hi-HT.sIx xs.length 0 lo),AF _ rfl⟩
theorem cM_:bQ_ X (.builtin "len") (fun xs H Q=>∃p ys,xs=[.ref p]/\(SqL X.K H p ys\/SqT X.K H p ys)/\Q (.int ys.length) H):=by
 intro pins s σ H xs us Q I r h;obtain⟨p,ys,rfl,hq,q⟩:=h;obtain⟨u,rfl,rx⟩:=ek_ r;cases rx;have hn:=fH_;rcases hq with hq|hq
 .obtain⟨its,r',pl,hz⟩:=I.list hq;have hlen:=r'.length;exact Calls.call_len_list pl.isList (by simp only [AE]<;>lia) ⟨.int ys.length,H,I.tok _,⟨s.toks+1,by rw [AE,hlen]⟩,q⟩
 .obtain⟨its,r',pl,hz⟩:=I.tuple hq;have hlen:=r'.length;exact len_tuple pl (by simp only [AE]<;>lia) ⟨.int ys.length,H,I.tok _,⟨s.toks+1,by rw [AE,hlen]⟩,q⟩
theorem gR_:bQ_ X (.type "tuple") (fun xs H Q=>∃p ys,xs=[.ref p]/\((SqL X.K H p ys/\∀l,H l=none->Q (.ref l) (upd H l (.tup ys)))\/(SqT X.K H p ys/\Q (.ref p) H))):=by
 intro pins s σ H xs us Q I r h;obtain⟨p,ys,rfl,h⟩:=h;obtain⟨u,rfl,rx⟩:=ek_ r;cases rx;rcases h with⟨hq,q⟩|⟨hq,q⟩
 .obtain⟨its,r',pl,hz⟩:=I.list hq;have hlen:=r'.length;refine call_tuple_list pl.isList (fun h' kp=> ?_) (by simp only [AE]<;>lia)
  have I1:Inv X pins σ H {s with heap:=h'}:=I.kept (t':=s.toks) kp;have I2:Inv X pins σ (upd H h'.objs.size (.tup ys)) {s with heap:=h'.push {cls:= .type "tuple",data:= .seq its.toArray}}:=
   I1.laid (t':=s.toks) (fun b o e=>A6 _ e) (AA _) (show aC_ X.prog X.w _ _ _ (.tup ys) from⟨hz,its,r',IsTup.new _ _⟩)
  exact⟨.ref h'.objs.size,_,I2,rfl,q _ (I1.hok.fresh (AA _))⟩
 .obtain⟨its,r',pl,hz⟩:=I.tuple hq;exact call_tuple_same pl ⟨.ref p,H,I,rfl,q⟩
def tyV (K:W.Frag) (T:String) (x:V) (H:Hp):Prop:=match x with
 | .str _=>T="str"
 | .int _=>T="int"
 | .ref p=>(T="list"/\∃xs,SqL K H p xs)\/(T="tuple"/\∃o,K.lookup p=some o/\o.cls= .type "tuple"/\o.dict=none)\/
   (T="dict"/\((∃kvs,H p=some (.dK kvs))\/∃kvs,H p=some (.dT kvs)))\/(T="set"/\∃S n,H p=some (.set S n))
 |_=>False
theorem rp_ {pins:List (Addr×Obj)}{σ:St}{H:Hp}{s:Shared}{T:String}{x:V}{v:Value} (I:Inv X pins σ H s) (r:aZ_ x v) (ty:tyV X.K T x H):
  s.TypeIs v T/\∀a,v= .ref a->∃ob,s.heap.get? a=some ob/\ob.dict=none:=by
 cases x with
 |str z=>
  obtain⟨t,rfl⟩:=r;cases (show T="str" from ty);exact⟨typeIs_str s z t,fun _ e=>nomatch e⟩
 |int i=>
  obtain⟨t,rfl⟩:=r;cases (show T="int" from ty);exact⟨typeIs_int s i t,fun _ e=>nomatch e⟩
 |ref p=>
  cases r;rcases ty with⟨rfl,xs,hq⟩|⟨rfl,o,hk,hc,hd⟩|⟨rfl,hk⟩|⟨rfl,S,n,hk⟩
  .obtain⟨its,_,pl,_⟩:=I.list hq;refine⟨pl.isList.typeIs,fun a e=> ?_⟩;cases e;obtain⟨o,n,e,c,hd,_⟩:=pl;exact⟨o,e,hd⟩
  .refine⟨⟨o,I.kIn p o hk,hc⟩,fun a e=> ?_⟩;cases e;exact⟨o,I.kIn _ o hk,hd⟩
  .have z:∃o,s.heap.get? p=some o/\o.ExactDict:=by
    rcases hk with⟨kvs,hk⟩|⟨kvs,hk⟩
    .obtain⟨_,_,_,_,o,_,_,e,ex,_⟩:=I.hok p _ hk;exact⟨o,e,ex⟩
    .obtain⟨_,_,_,_,o,_,_,e,ex,_⟩:=I.hok p _ hk;exact⟨o,e,ex⟩
   obtain⟨o,e,ex⟩:=z;refine⟨⟨o,e,ex.1⟩,fun a e2=> ?_⟩;cases e2;exact⟨o,e,ex.2.1⟩
  .obtain⟨o,_,_,_,e,ex,_⟩:=I.hok p _ hk;refine⟨⟨o,e,ex.1⟩,fun a e2=> ?_⟩;cases e2;exact⟨o,e,ex.2.1⟩
 |_=>exact False.elim ty
def tBM (K:W.Frag) (T:String) (r:V->List V->Hp->VK->Prop) (to:TE) (t:TA):TE:=fun σ H Q=>to σ H fun x H1=>tyV K T x H1/\t σ H1 fun xs H2=>r x xs H2 Q
variable {o e:Expr}{es:List Expr}{to:TE}{t:TA}{name:Str}{apos cpos:Pos}{T id:String}{r:V->List V->Hp->VK->Prop}
theorem cT_ (pa:PlainAttrs T) (slot:Slot T name id) (hty:typeOf (.builtin id)=pure (.type "method_descriptor")) (hm:MtR X id r) (ho:PE X o to) (ha:PA X (e::es) t)
  (hbase:attributeBase o name X.env (eval o X.env)=eval o X.env:=by rfl)
  (hfew:((backTo cpos (starEach (e::es) X.env)).all (fun x=> !x.1)&&(backToKw cpos (keywordEach [] X.env)).all (fun x=>x.1.isSome)
   &&decide ((e::es).length+([]:List Keyword).length+(if([]:List Keyword).isEmpty then 0 else 1)<30))=true:=by rfl)
  (hline:(apos.endLine==cpos.line)=true:=by rfl) (hs:starEach (e::es) X.env=(false,eval e X.env)::starEach es X.env:=by rfl) (hplain:(backTo cpos (starEach es X.env)).any (·.1)=false:=by rfl):
  PE X (.Call (.Attribute o name apos) (e::es) [] cpos) (tBM X.K T r to t):=by
 intro pins s σ H Q I h;refine wpAny_Call_method_late hbase hfew hline rfl (thn (ho pins s σ H _ I h) fun v s1 ⟨x,H1,I1,r1,ty,q1⟩=> ?_);obtain⟨h1,h2⟩:=rp_ I1 r1 ty;refine⟨T,id,pa,slot,hty,h1,h2, ?_⟩;have hA:=ha cpos pins s1 σ H1 _ I1 q1;rw [hs] at hA⊢;refine Calls.callWith_builtin (by show(false||(backTo cpos (starEach es X.env)).any (·.1))=false;rw [hplain]<;>rfl) (Calls.evalArgs_plain ?_)
 exact thn hA fun us s2 ⟨vs,H2,I2,r2,q2⟩=>hm pins s2 σ H2 x vs v us Q I2 r1 r2 q2
end
end L2
namespace L2
open PySem PySem.Spec PyProof.Rows
def MtM (X:Cx) (id:String) (r:V->List V->Hp->VK->Prop):Prop:=
 ∀(pins:List (Addr×Obj)) (s:Shared) (σ:St) (H:Hp) (x:V) (xs:List V) (v:Value) (us:List Value) (Q:VK),Inv X pins σ H s->aZ_ x v->aV_ xs us->r x xs H Q->
  wpAny (model X.prog X.w) X.A (call (.builtin id) (v::us)) (EP X pins σ Q) X.xe s
theorem aV_.one:∀{x:V}{us:List Value},aV_ [x] us->∃u,us=[u]/\aZ_ x u
 |_,_, .cons r .nil=>⟨_,rfl,r⟩
theorem aV_.rep {xs:List V}{us:List Value} (h:aV_ xs us):∀k:Nat,aV_ (List.replicate k xs).flatten (List.replicate k us).flatten
 |0=> .nil
 |k+1=>by
  rw [BG,BG,Cp,Cp];exact aV_.append h (aV_.rep h k)
theorem hU_ (its:List Value):∀(k:Nat) (acc:List Value),
  List.foldl (fun x1 x2=>x1++x2) acc.toArray (List.replicate k its.toArray)=(acc++(List.replicate k its).flatten).toArray
 |0,acc=>by simp
 |k+1,acc=>by
  have e:acc.toArray++its.toArray=(acc++its).toArray:=by simp
  have e2:(acc++its)++(List.replicate k its).flatten=acc++(List.replicate (k+1) its).flatten:=by
   rw [BG,Cp,BA]
  rw [<-e2,<-hU_ its k (acc++its),<-e,BG,CD]
section
variable {X:Cx}{pins:List (Addr×Obj)}{σ:St}{H:Hp}{s:Shared}{l b:Addr}{xs ys zs:List V}
theorem Inv.lset {its its':List Value}{n:Nat}{f:Array Value->Array Value}{t':Nat} (I:Inv X pins σ H s) (hH:H l=some (.lst xs))
  (e:s.heap.get? l=some {cls:= .type "list",data:= .seq its.toArray n}) (hf:f its.toArray=its'.toArray) (hv:aV_ ys its') (hz:ys.length<=sizeLine):
  Inv X pins σ (upd H l (.lst ys)) {s with heap:=s.heap.update l (Obj.mapSeq f),toks:=t'}:=by
 have q:=PySem.IsL.update e f;rw [hf] at q;refine I.write (x:=l) (e:=l) (by rw [hH];exact trivial) (.inl rfl) (fun b' u hb hu=>(Heap.get?_update_other s.heap (Obj.mapSeq f) (C9 hb)).trans hu) ⟨_,q⟩ ?_;exact⟨hz,its',_,hv,q⟩
theorem Inv.lnew {its:List Value}{t':Nat} (I:Inv X pins σ H s) (hv:aV_ ys its) (hz:ys.length<=sizeLine):
  Inv X pins σ (upd H s.heap.objs.size (.lst ys)) {s with heap:=s.heap.push {cls:= .type "list",data:= .seq its.toArray},toks:=t'}:=
 I.laid (fun _ _ q=>A6 _ q) (AA _) ⟨hz,its,0,hv,AF _ rfl⟩
theorem Inv.fresh (I:Inv X pins σ H s):H s.heap.objs.size=none:=I.hok.fresh (AA _)
theorem Inv.lstM (I:Inv X pins σ H s) (hH:H l=some (.lst xs)):xs.length<=sizeLine/\∃(its:List Value) (n:Nat),aV_ xs its/\xs.length=its.length/\s.heap.get? l=some {cls:= .type "list",data:= .seq its.toArray n}:=by
 obtain⟨z,its,n,r,e⟩:=I.hok l _ hH;exact⟨z,its,n,r,r.length,e⟩
theorem jO_ {n:Nat} (h:n<=sizeLine):Builtin.List.listTooLong n=false:=by
 unfold Builtin.List.listTooLong;exact Ak (by lia)
end
section
variable {X:Cx}
def de_:V->List V->Hp->VK->Prop:=fun x vs H Q=>∃l xs y,x= .ref l/\vs=[y]/\H l=some (.lst xs)/\xs.length<sizeLine/\Q .non (upd H l (.lst (xs++[y])))
theorem a1_:MtM X "list.append" de_:=by
 intro pins s σ H x vs v us Q I rx rv h;obtain⟨l,xs,y,rfl,rfl,hH,hz,q⟩:=h;cases rx;obtain⟨u,rfl,ru⟩:=rv.one;obtain⟨z,its,n,r,hl,e⟩:=I.lstM hH;refine call_meets F.slot_list_append ⟨_,e,rfl⟩ F.entry_list_append (F.args_list_append_2 _ _) (PySem.list_append l its.toArray n u (by rw [AE];lia)) ⟨e, ?_⟩;refine⟨.non,_,I.lset (its':=its++[u]) hH e (by simp) (r.append (.cons ru .nil)) ?_,rfl,q⟩;rw [AC,BS];lia
def p4_:V->List V->Hp->VK->Prop:=fun x vs H Q=>∃l b xs zs,x= .ref l/\vs=[.ref b]/\H l=some (.lst xs)/\H b=some (.lst zs)/\xs.length+zs.length<=sizeLine/\Q .non (upd H l (.lst (xs++zs)))
theorem cI_:MtM X "list.extend" p4_:=by
 intro pins s σ H x vs v us Q I rx rv h;obtain⟨l,b,xs,zs,rfl,rfl,hH,hB,hz,q⟩:=h;cases rx;obtain⟨u,rfl,ru⟩:=rv.one;cases ru;obtain⟨z,its,n,r,hl,e⟩:=I.lstM hH;obtain⟨z2,its2,n2,r2,hl2,e2⟩:=I.lstM hB;have hsz:its.toArray.size+its2.toArray.size<=sizeLine:=by rw [AE,AE];lia
 have hlong:¬(!its.toArray.isEmpty&&Builtin.List.listTooLong (its.toArray.size+its2.toArray.size))=true:=by
  rw [jO_ hsz,DC];exact AT
 refine call_meets F.slot_list_extend ⟨_,e,rfl⟩ F.entry_list_extend (F.args_list_extend_2 _ _)
  (AutoSeq1.list_extend_list_list_0 l its.toArray n b its2.toArray n2 hlong (by rw [AE];lia) (by lia)) ⟨e,e2, ?_⟩
 refine⟨.non,_,I.lset (its':=its++its2) hH e (by simp) (r.append r2) ?_,rfl,q⟩;rw [AC];lia
def u9_:R2:=fun x y H Q=>∃l b xs zs,x= .ref l/\y= .ref b/\H l=some (.lst xs)/\H b=some (.lst zs)/\xs.length+zs.length<=sizeLine/\∀p,H p=none->Q (.ref p) (upd H p (.lst (xs++zs)))
theorem pc_:OpR X (binaryOp .Add) u9_:=by
 intro pins s σ H x y v u Q I rx ry h;obtain⟨l,b,xs,zs,rfl,rfl,hH,hB,hz,q⟩:=h;cases rx;cases ry;obtain⟨z,its,n,r,hl,e⟩:=I.lstM hH;obtain⟨z2,its2,n2,r2,hl2,e2⟩:=I.lstM hB;refine PySem.P.add_list e e2 ?_ (by rw [AE,AE];lia);have ea:its.toArray++its2.toArray=(its++its2).toArray:=by simp
 rw [ea];exact⟨.ref _,_,I.lnew (t':=s.toks) (r.append r2) (by rw [AC];lia),rfl,q _ I.fresh⟩
def u5_:R2:=fun x y H Q=>∃l k xs,x= .ref l/\y= .int k/\H l=some (.lst xs)/\-(2^63)<=k/\k<2^63/\xs.length*k.toNat<=sizeLine/\
 ∀p,H p=none->Q (.ref p) (upd H p (.lst (List.replicate k.toNat xs).flatten))
theorem qz_ {α:Type} (xs:List α) (k:Nat):(List.replicate k xs).flatten.length=k*xs.length:=by
 induction k with
 |zero=>simp
 |succ k ih=>rw [BG,Cp,AC,ih,CP,Nat.add_comm]
theorem r8_:OpR X (binaryOp .Mult) u5_:=by
 intro pins s σ H x y v u Q I rx ry h;obtain⟨l,k,xs,rfl,rfl,hH,h1,h2,hz,q⟩:=h;cases rx;obtain⟨t,rfl⟩:=ry;obtain⟨z,its,n,r,hl,e⟩:=I.lstM hH;have hlen:its.toArray.size*k.toNat<=sizeLine:=by rw [AE,<-hl];exact hz
 have hcap:¬its.toArray.size*k.toNat>(2^63-1)/8:=by
  have:(sizeLine:Nat)<=(2^63-1)/8:=by decide
  lia
 have hfit:¬(!Builtin.List.listFitsIndex k)=true:=by
  rw [fitsIndex_both h1 h2];exact AT
 have hlong:¬Builtin.List.listTooLong (its.toArray.size*k.toNat)=true:=by
  rw [jO_ hlen];exact AT
 have hnew:List.foldl (fun x1 x2=>x1++x2) #[] (List.replicate (if its.toArray.isEmpty=true then 0 else k.toNat) its.toArray)=(List.replicate k.toNat its).flatten.toArray:=by
  have f0:∀m:Nat,List.foldl (fun x1 x2=>x1++x2) #[] (List.replicate m its.toArray)=(List.replicate m its).flatten.toArray:=fun m=>by
   have:=hU_ its m [];rw [List.nil_append] at this;exact this
  rw [f0];cases its with
  |nil=>simp
  |cons a r'=>rw [A5 (by simp)]
 refine wpAny_binaryOp_repeat_ref (T:="list") (U:="int") (by decide) ⟨_,e,rfl⟩ (fun s'=>typeIs_int s' k t) noFill_list_mul F.fills_int_mul F.slot_int_rmul repeat_list F.slot_int_index.lookup
  (call_meets F.slot_int_rmul (typeIs_int s k t) F.entry_int_rmul (F.args_int_rmul_2 _ _) (int___rmul___int_list k t l its.toArray n)
   ⟨e,rfl,⟨_,e,rfl⟩,call_meets F.slot_list_mul ⟨_,e,rfl⟩ F.entry_list_mul (F.args_list_mul_2 _ _) (AutoListH.list___mul___list_int_3 l its.toArray n k t hfit hcap hlong) ⟨e, ?_⟩⟩)
 rw [hnew];exact⟨.ref _,_,I.lnew (t':=s.toks) (r.rep k.toNat) (by rw [qz_,Nat.mul_comm];exact hz),rfl,q _ I.fresh⟩
end
section
variable {prog:Program}{w:World}{A:Around}{E:Value->Shared->Prop}{s:Shared}
end
section
variable {X:Cx}
end
end L2
namespace Att
open PySem PySem.W PySem.Calls PyProof.Rows
theorem e5_ {P:Params}{h:Heap}:∀(ns:List Int) (vs:List Value),WellAll P h vs (ns.map WData.int)->IntsAre vs ns:=by
 intro ns;induction ns with
 |nil=>
  intro vs w;rw [D8] at w;cases w;exact .nil
 |cons n ns ih=>
  intro vs w;rw [AK] at w;cases w with
  |cons a b=>
   cases a;exact .cons _ _ (ih _ b)
theorem lK_ {l:OpenLaw}{n:Nat} (hn:l.most=some n) {P:Params}{h:Heap}{args:List WData}{vals:List Value}
  (hpre:l.row.toRowW.claim.pre args=true) (hwl:WellAll P h vals args):
  ∃a vs ns,vals=[Value.ref a]/\args=[WData.list (ns.map WData.int)]/\h.get? a=some {cls:= .type "list",data:= .seq vs.toArray}/\IntsAre vs ns/\ns.length<=n:=by
 have hsh:WShape.hasAll [] args [.list .int]=true:=(pre_splitW hpre).1;have hc:l.pre.holds [] {args:=args}=true:=(pre_splitW hpre).2;obtain⟨d,r,rfl,h1,h2⟩:=hasAllW_cons hsh;obtain rfl:=hasAllW_nil h2;obtain⟨xs,rfl,h3⟩:=hasW_list h1;obtain⟨ns,rfl⟩:=items_int h3;have hlen:ns.length<=n:=by
  unfold OpenLaw.pre at hc;have h4:(WTm.not (.lt (.lit (.int (n:Int))) (.len (.arg 0)))).holds [] {args:=[.list (ns.map .int)]}=true:=by
   have h4:=(holds_andW hc).1;rw [hn] at h4;exact h4
  have h5:=condW_of h4 (w_not (w_lt w_lit (w_len_list (w_arg rfl))));rw [A1] at h5;refine Nat.le_of_not_lt fun q=> ?_;have q':(n:Int)<((ns.length:Nat):Int):=by lia
  first
   |(rw [BF q'] at h5;exact absurd h5 (by decide))
   |(simp at h5;lia)
 cases hwl with
 |cons w1 w2=>
  cases w2;cases w1 with
  |list ho hall=>exact⟨_,_,ns,rfl,rfl,ho,e5_ ns _ hall,hlen⟩
theorem l8_ (l:OpenLaw) (args:List WData):l.row.toRowW.claim.post args (.bool true) args=true:=
 postW_of (r:=l.row.toRowW) (X:=(true==true))
  (show WShape.has [] (.bool true) .bool=true by first|rfl|decide|simp [WShape.has,WShape.arms,WShape.armsAll])
  (show(WTm.eq .res (.lit (.bool true))).value [] {args:=args,res:=some (.bool true),after:=args}=some (.bool (true==true)) from w_eq_bool (w_res rfl) w_lit) rfl
theorem attach_call {l:OpenLaw}{n:Nat}{q:Program}{loose:List Str}{XP:(Str->Option Value)->Heap->Prop}{YP:World->Heap->Prop}{d:DefRec}
  (hn:l.most=some n) (hdf:d.params.defaults=[])
  (call:∀(w:World) (s₀ s₁:Shared) (mg mb:Str->Option Value) (fa:Addr) (o:Obj) (pm cd doc:Value) (a:Addr) (vs:List Value) (ns:List Int),
   Ground q loose [] XP w s₀ mg mb s₁.heap->YP w s₁.heap->
   s₁.heap.get? fa=some o->o.data= .func (docDef d.name d.params d.body d.scope pm cd doc)->s₁.heap.CodeRec cd d.name->mg d.name=some (.ref fa)->
   s₁.heap.get? a=some {cls:= .type "list",data:= .seq vs.toArray}->IntsAre vs ns->ns.length<=n->s₁.gens= #[]->
   codeAny (model l.prog w) callerA (.call (.ref fa) ⟨[.ref a],[]⟩) (fun r s'=>r= .ok (.ret (.bool true))/\OldK s₁.heap s'.heap/\s'.os=s₁.os/\AllBare s'.gens) s₁):
  WalkO q loose XP YP l.row.toRowW d [] (fun f vs=>PySem.call f vs):=by
 intro w s₀ s₁ mg mb G Y fa o pm cd doc dV kV ho hd hcd hD hmg hg args vals as hpre hlay hrd hwl hlo;obtain rfl:dV= .none:=Dflts.none hD hdf;obtain rfl:kV= .none:=Dflts.noKw hD;obtain⟨a,vs,ns,rfl,rfl,hobj,hints,hlen⟩:=lK_ hn hpre hwl;refine enter_call (DG (call w s₀ s₁ mg mb fa o pm cd doc a vs ns G Y ho (fd_plain hd) hcd hmg hobj hints hlen hg) fun r s' hq=> ?_);obtain⟨rfl,h2,h3,h4⟩:=hq;exact⟨.inl ⟨.bool true, .bool true,[],rfl,fun _=>rfl, .bool true,l8_ l _,fun _=>⟨List.Pairwise.nil,fun _ hm=>(nomatch hm)⟩⟩,h2,h3,h4⟩
section
variable {prog:Program}{w:World}{A:Around}{E:Value->Shared->Prop}{s:Shared}{K:Frag}
def uH_ (h:Heap) (L d:Addr):List (Addr×Obj):=(List.range h.objs.size).filterMap fun a=>if a=L\/a=d then none else(h.get? a).map fun o=>(a,o)
end
end Att
namespace L2
open PySem PySem.Spec PyProof.Rows
theorem gZ_:∀{vs:List Value}{ns:List Int},IntsAre vs ns->aV_ (ns.map V.int) vs
 |_,_, .nil=> .nil
 |_,_, .cons n t h=> .cons ⟨t,rfl⟩ (gZ_ h)
def uy_ (H:Hp):Prop:=∀b,H b=none\/∃o xs,H b=some (.frz o (.lst xs))
theorem oq_ {P:Program}{w:World}{K:W.Frag}{mg mb:Str->Option Value}{CX:CXT}{k:Nat}{fa a:Addr}{fd:FuncData}{x:Str}{sp:Sp}{s₁:Shared}{vs:List Value}{ns:List Int}
  (KX:K.In s₁.heap) (hns:s₁.heap.Ns mainGlobals mg) (hb:s₁.heap.Ns builtinsNs mb) (hbb:∀x:Str,x≠"__name__"->mb x=bootBuiltins x) (hlim:s₁.heap.NoLimit) (hg:s₁.gens= #[])
  (ha:s₁.heap.get? a=some {cls:= .type "list",data:= .seq vs.toArray}) (hi:IntsAre vs ns) (hl:ns.length<=sizeLine) (hr:Room k callerA)
  (F:∀base:Heap,K.In base->base.Ns mainGlobals mg->FnOk P w K mg base CX k fa fd [x] sp) (hbind:∀(s:Shared) (u:Value),BindsTo s fd ⟨[u],[]⟩ [(x,u)])
  (hsp:∀H:Hp,uy_ H->SqL K H a (ns.map V.int)->sp [.ref a] H (fun v _=>v= .bl true) fun _ _ _=>False)
  (hCX:∀H e s',CX [] H s₁ (fun _ _ _=>False) e s'->False):
  codeAny (model P w) callerA (.call (.ref fa) ⟨[.ref a],[]⟩) (fun r s'=>r= .ok (.ret (.bool true))/\OldK s₁.heap s'.heap/\s'.os=s₁.os/\AllBare s'.gens) s₁:=by
 have rv:=gZ_ hi;have lenV:=hi.length;have core:∀H:Hp,uy_ H->SqL K H a (ns.map V.int)->HOk P w H s₁.heap->(∀b,H b≠none->b=a)->(H a≠none->K.lookup a=none)->
   codeAny (model P w) callerA (.call (.ref fa) ⟨[.ref a],[]⟩) (fun r s'=>r= .ok (.ret (.bool true))/\OldK s₁.heap s'.heap/\s'.os=s₁.os/\AllBare s'.gens) s₁:=by
  intro H hO hS hok hA hK;have base_of:∀{b:Addr}{o:Obj},s₁.heap.get? b=some o->H b=none->(oA_ s₁.heap H).get? b=some o:=fun e n=>oz_ e n;have noA:∀{b:Addr}{o:Obj}{es:Array DictEntry}{ep:Nat},s₁.heap.get? b=some o->o.data= .dict es ep->H b=none:=fun{b o es ep} e d=>by
   cases q:H b with
   |none=>rfl
   |some u=>
    have e':b=a:=hA b (by rw [q];simp);subst e';rw [ha] at e;cases e;have d':Data.seq vs.toArray _=Data.dict es ep:=d;cases d'
  have nsK:∀{b:Addr}{m:Str->Option Value},s₁.heap.Ns b m->(oA_ s₁.heap H).Ns b m:=fun{b m} ⟨o,es,ep,e,d,r⟩=>⟨o,es,ep,base_of e (noA e d),d,r⟩;have hKb:K.In (oA_ s₁.heap H):=fun b o e=>base_of (KX b o e) (by
   cases q:H b with
   |none=>rfl
   |some u=>
    have e':b=a:=hA b (by rw [q];simp);subst e';rw [hK (by rw [q];simp)] at e;cases e)
  have hM:Mod K mg (oA_ s₁.heap H):=⟨hKb,nsK hns,⟨mb,nsK hb,hbb⟩,let ⟨mc,h1,h2⟩:=hlim;⟨mc,nsK h1,h2⟩⟩;have e0:Env0 P w K mg (oA_ s₁.heap H) callerA [] s₁ H:=⟨rfl,hM,fun b o e=>qn_ e,Nat.le_of_eq (mT_ _ _),trivial,fun b hb=>absurd (show b∈([]:List Addr) from hb) (by simp),hok, .of_eq hg⟩;refine DG ((F _ hKb (nsK hns)).run callerA [] s₁ H ⟨[.ref a],[]⟩ [.ref a] [.ref a] _ _ hr e0 (hbind s₁ (.ref a)) (.cons rfl .nil) (hsp H hO hS)) fun r s' h=> ?_;cases r with
  |error e=>exact(hCX H e s' h).elim
  |ok fl=>
   cases fl with
   |next=>exact False.elim h
   |brk=>exact False.elim h
   |cont=>exact False.elim h
   |ret u=>
    obtain⟨v,H',os,bare,un,hok',r',q⟩:=h;have q':v= .bl true:=q;subst q';obtain rfl:u=Value.bool true:=r';refine⟨rfl,OldK.of_keep fun b o e=> ?_,os,bare⟩;cases q:H b with
    |none=>exact un.keep b o e q (by intro z;exact absurd (show b∈([]:List Addr) from z) (by simp)) (by simp)
    |some u=>
     rcases hO b with z|⟨ob,xs,z⟩
     .rw [q] at z;cases z
     .have z2:=un.frzs b ob _ z;obtain⟨e1,_⟩:=hok b _ z;obtain⟨e2,_⟩:=hok' b _ z2;rw [e] at e1;cases e1;exact e2
 cases hk:K.lookup a with
 |some o=>
  have e:=KX a o hk;rw [ha] at e;cases e;refine core (fun _=>none) (fun _=> .inl rfl) (.inr ⟨_,vs.toArray,_,hk,rfl,rfl,rfl,by rw [AE,lenV];exact hl,by simpa using rv⟩) (fun b u z=>by have z':(none:Option HO)=some u:=z;cases z') (fun b z=>absurd rfl z) fun z=>absurd rfl z
 |none=>
  refine core (fun b=>if b=a then some (.frz {cls:= .type "list",data:= .seq vs.toArray} (.lst (ns.map V.int))) else none) (fun b=> ?_) (.inl (.inr ⟨{cls:= .type "list",data:= .seq vs.toArray},A7 rfl⟩)) (fun b u z=> ?_) (fun b z=> ?_) fun _=>hk
  .by_cases hb:b=a
   .exact .inr ⟨_,_,A7 hb⟩
   .exact .inl (A5 hb)
  .by_cases hb:b=a
   .have z':=(A7 hb).symm.trans z;cases z';subst hb;exact⟨ha,by rw [A1];exact hl,vs,_,rv,ha⟩
   .have z':=(A5 hb).symm.trans z;cases z'
  .by_cases hb:b=a
   .exact hb
   .exact absurd (A5 hb) z
end L2
namespace L2
open PySem PySem.Spec PyProof.Rows
theorem pH_ {l:W.OpenLaw}{n k:Nat}{q:Program}{loose:List Str}{XP:(Str->Option Value)->Heap->Prop}{YP:World->Heap->Prop}{d:DefRec}{K:Params->W.Frag}{CX:World->CXT}{sp:World->Sp}{x:Str}
  (hn:l.most=some n) (hn2:n<=sizeLine) (hdf:d.params.defaults=[]) (hr:Room k callerA)
  (hY:∀(w:World) (h:Heap),YP w h->(K w.params).In h)
  (F:∀(w:World) (mg:Str->Option Value) (fa:Addr) (h:Heap),(K w.params).In h->h.Ns mainGlobals mg->mg d.name=some (.ref fa)->
   ∃fd:FuncData,(∀(s:Shared) (u:Value),BindsTo s fd ⟨[u],[]⟩ [(x,u)])/\
    ∀base:Heap,(K w.params).In base->base.Ns mainGlobals mg->FnOk l.prog w (K w.params) mg base (CX w) k fa fd [x] (sp w))
  (hsp:∀(w:World) (H:Hp) (a:Addr) (ns:List Int),ns.length<=n->uy_ H->SqL (K w.params) H a (ns.map V.int)->sp w [.ref a] H (fun v _=>v= .bl true) fun _ _ _=>False)
  (hCX:∀(w:World) (H:Hp) (s:Shared) (e:Value) (s':Shared),CX w [] H s (fun _ _ _=>False) e s'->False):
  W.WalkO q loose XP YP l.row.toRowW d [] (fun f vs=>PySem.call f vs):=by
 refine Att.attach_call hn hdf fun w s₀ s₁ mg mb fa o pm cd doc a vs ns G Y ho hd hcd hmg hobj hints hlen hg=> ?_;have KX:=hY w _ Y;obtain⟨fd,hb,hF⟩:=F w mg fa _ KX G.T.g hmg;exact oq_ KX G.T.g G.T.b G.T.builtins G.T.nolimit hg hobj hints (B6 hlen hn2) hr hF hb (fun H hO hS=>hsp w H a ns hlen hO hS) fun H e s'=>hCX w H s₁ e s'
end L2
namespace L2
open PySem PySem.Spec PyProof.Rows
def ch_ (s:Stmt):Arguments:=match s with
 | .FunctionDef _ a _ _ _ _ _ _ _ _=>a
 |_=>{posonlyargs:=[],args:=[],vararg:=none,kwonlyargs:=[],kw_defaults:=[],kwarg:=none,defaults:=[]}
def bC_ (s:Stmt):List Stmt:=match s with
 | .FunctionDef _ _ b _ _ _ _ _ _ _=>b
 |_=>[]
def af_ (s:Stmt):Scope:=match s with
 | .FunctionDef _ _ _ _ _ _ sc _ _ _=>sc
 |_=>{kind:= .function,names:=[],isGenerator:=false,isCoroutine:=false}
abbrev CX0:CXT:=fun _ _ _ _ _ _=>False
abbrev E0:XK:=fun _ _ _=>False
theorem aq_ {X:Cx}:ej_ CX0 X E0:=fun _ _ _ _ _ _ _ h=>h.elim
structure Fun (K:W.Frag) (x qual:Str) (st:Stmt) (f:Addr) (fd:FuncData):Prop where
 ex:∃(oc:Value) (od:Option Addr) (kV doc pm:Value) (an:Option Addr) (cdv ct:Value) (osl:Array (Option Value)),
  fd=W.fnOf x qual (ch_ st) (bC_ st) (af_ st) .none kV doc pm an cdv ct/\K.lookup f=some ⟨oc,od, .func fd,osl⟩/\W.codeIn K cdv qual=true
 kp:W.keepIn K (.ref f)=true
section
variable {P:Program}{w:World}{K:W.Frag}{mg:Str->Option Value}{base:Heap}
theorem Fun.ok {x qual:Str}{st:Stmt}{f:Addr}{fd:FuncData}{N ps:List Str}{k:Nat}{sp:Sp} (F:Fun K x qual st f fd) (S:FnScope N ps (af_ st)) (len:∀vs H Q E,sp vs H Q E->vs.length=ps.length)
  (hbody:∀(cdv:Value) (A:Around) (outer:List Env) (s:Shared) (H:Hp) (vs:List V) (Q:VK) (E:XK),Room k (A.deeper (envOfC qual (af_ st) s.heap.objs.size f cdv))->sp vs H Q E->
   ∃t,PSs (lj_ CX0 P w K mg base N qual (af_ st) f cdv A outer s H E).nox (bC_ st) t/\t {nx:=fun _ H'=>Q .non H',rt:=Q} (start N vs) H):FnOk P w K mg base CX0 (k+1) f fd ps sp:=by
 obtain⟨oc,od,kV,doc,pm,an,cdv,ct,osl,rfl,lk,hcd⟩:=F.ex;refine sC_ lk hcd S len fun A outer s H vs Q E hr hsp=> ?_;obtain⟨t,h,q⟩:=hbody cdv A outer s H vs Q E hr hsp;exact⟨t,h.nox,q⟩
theorem Fun.binds {x qual:Str}{st:Stmt}{f:Addr}{fd:FuncData}{ps:List Str} (F:Fun K x qual st f fd)
  (h:∀(kV doc pm:Value) (an:Option Addr) (cdv ct:Value) (us:List Value),us.length=ps.length->bindArgs (W.fnOf x qual (ch_ st) (bC_ st) (af_ st) .none kV doc pm an cdv ct) ⟨us,[]⟩=pure (ps.zip us)):li_ K fd ps []:=by
 obtain⟨oc,od,kV,doc,pm,an,cdv,ct,osl,rfl,lk,hcd⟩:=F.ex;exact .all (h kV doc pm an cdv ct)
theorem sB_ {x qual:Str}{st:Stmt}{f:Addr}{oc:Value}{od an:Option Addr}{osl:Array (Option Value)}{kV doc pm cdv ct:Value} (l:K.lookup f=some ⟨oc,od, .func (W.fnOf x qual (ch_ st) (bC_ st) (af_ st) .none kV doc pm an cdv ct),osl⟩)
  (c:W.codeIn K cdv qual=true) (k:W.keepIn K (.ref f)=true):Fun K x qual st f (W.fnOf x qual (ch_ st) (bC_ st) (af_ st) .none kV doc pm an cdv ct):=⟨⟨oc,od,kV,doc,pm,an,cdv,ct,osl,rfl,l,c⟩,k⟩
end
theorem en_ {A:Around}{k:Nat} (hr:Room k A):A.units+1<cLine:=Nat.lt_of_le_of_lt (Nat.add_le_add_left (by decide:1<=64) _) hr.units
theorem ao_ {n:Nat} (h:n<=1000):n<sizeLine:=Nat.lt_of_le_of_lt h (by decide)
section
variable {X:Cx}
theorem pv (i:Nat) {x:Str}{pos:Pos} (hN:X.N[i]? =some x:=by rfl) (hv:Vis X.env.scope x:=by first|exact Or.inl rfl|exact Or.inr (Or.inl rfl)|exact Or.inr (Or.inr rfl)) (hd:(x==("__debug__":Str))=false:=by decide)
  (hcd:(x==("__classdict__":Str))=false:=by decide):PE X (.Name x pos) (ta_ i):=r1_ hN hv hd hcd
end
theorem gF_ {A B:Prop} (h:B):if false=true then A else B:=by
 rw [A5 AT];exact h
theorem ov_ {A B:Prop} (h:A):if true=true then A else B:=by
 rw [A7 rfl];exact h
def an_ (H H':Hp):Prop:=∀b o,H b=some o->H' b=some o
theorem an_.refl (H:Hp):an_ H H:=fun _ _ h=>h
theorem an_.trans {H H1 H2:Hp} (a:an_ H H1) (b:an_ H1 H2):an_ H H2:=fun c o h=>b c o (a c o h)
theorem an_.free {H H':Hp} (e:an_ H H') {l:Addr} (h:H' l=Option.none):H l=Option.none:=by
 cases q:H l with
 |none=>rfl
 |some o=>
  rw [e l o q] at h;cases h
end L2
set_option maxHeartbeats 4000000
namespace L2
open PySem PySem.Spec PyProof.Rows
section
variable {κ:Type} [DecidableEq κ]
def dq_ (kvs:List (κ×V)) (k:κ):Option V:=(kvs.find? fun kv=>decide (kv.1=k)).map (·.2)
def dy_ (kvs:List (κ×V)) (k:κ) (v:V):List (κ×V):=
 if(kvs.any fun kv=>decide (kv.1=k))=true then kvs.map (fun kv=>if kv.1=k then(kv.1,v) else kv) else kvs++[(k,v)]
theorem bD_ {p:κ×V}{r:List (κ×V)}{k:κ} (e:p.1=k):dq_ (p::r) k=some p.2:=by simp [dq_,BO,e]
theorem bE_ {p:κ×V}{r:List (κ×V)}{k:κ} (e:¬p.1=k):dq_ (p::r) k=dq_ r k:=by simp [dq_,BO,e]
theorem ep_ (k:κ):∀kvs:List (κ×V),(kvs.any fun kv=>decide (kv.1=k))=(dq_ kvs k).isSome
 |[]=>rfl
 |p::r=>by
  rw [List.any_cons];by_cases e:p.1=k
  .simp only [bD_ e,BF e,Bool.true_or,Option.isSome_some]
  .rw [bE_ e,Ak e,Bool.false_or];exact ep_ k r
theorem g0_ (k j:κ) (y:V):∀kvs:List (κ×V),dq_ kvs k=none->dq_ (kvs++[(k,y)]) j=if j=k then some y else dq_ kvs j
 |[],_=>by
  by_cases e:k=j
  .rw [A7 e.symm];exact bD_ (p:=(k,y)) e
  .rw [A5 (fun z=>e z.symm)];exact bE_ (p:=(k,y)) e
 |p::r,hn=>by
  rw [List.cons_append];have hk:¬p.1=k:=fun z=>by rw [bD_ z] at hn;cases hn
  rw [bE_ hk] at hn;have ih:=g0_ k j y r hn;by_cases e:p.1=j
  .rw [bD_ e,bD_ e,A5 (fun z=>hk (e.trans z))]
  .rw [bE_ e,bE_ e,ih]
theorem dk_ (kvs:List (κ×V)) (k:κ) (v:V):(dy_ kvs k v).length<=kvs.length+1:=by
 unfold dy_;split
 .rw [A1];lia
 .rw [AC,AY,List.length_nil];lia
theorem jo_.isSome_eq {o:Option V}{u:Option Value} (r:jo_ o u):o.isSome=u.isSome:=by
 cases o with
 |none=>cases u with
  |none=>rfl
  |some _=>exact(show False from r).elim
 |some _=>cases u with
  |none=>exact(show False from r).elim
  |some _=>rfl
theorem jo_.getD {o:Option V}{u:Option Value}{d:V}{d':Value} (r:jo_ o u) (rd:aZ_ d d'):aZ_ (o.getD d) (u.getD d'):=by
 cases o with
 |none=>cases u with
  |none=>exact rd
  |some _=>exact(show False from r).elim
 |some _=>cases u with
  |none=>exact(show False from r).elim
  |some _=>exact r
theorem KV.val {kvs:List (κ×V)}{vs:List (κ×Value)} (r:KV kvs vs) (k:κ):jo_ (dq_ kvs k) (valueAt vs k):=by
 unfold KV at r;induction r with
 |nil=>exact True.intro
 | @cons p q ps qs h t ih=>
  obtain⟨h1,h2⟩:=h;by_cases e:p.1=k
  .have e':q.1=k:=h1.symm.trans e;have b:valueAt (q::qs) k=some q.2:=by simp [valueAt,BO,e']
   rw [bD_ e,b];exact h2
  .have e':¬q.1=k:=fun z=>e (h1.trans z);have b:valueAt (q::qs) k=valueAt qs k:=by simp [valueAt,BO,e']
   rw [bE_ e,b];exact ih
theorem KV.any {kvs:List (κ×V)}{vs:List (κ×Value)} (r:KV kvs vs) (k:κ):(kvs.any fun kv=>decide (kv.1=k))=vs.any fun kv=>decide (kv.1=k):=by
 unfold KV at r;induction r with
 |nil=>rfl
 |cons h t ih=>rw [List.any_cons,List.any_cons,ih,h.1]
theorem KV.repl {kvs:List (κ×V)}{vs:List (κ×Value)} (r:KV kvs vs) (k:κ) {y:V}{u:Value} (ry:aZ_ y u):
  KV (kvs.map fun kv=>if kv.1=k then(kv.1,y) else kv) (vs.map fun kv=>if kv.1=k then(kv.1,u) else kv):=by
 unfold KV at r⊢;induction r with
 |nil=>exact .nil
 | @cons p q ps qs h t ih=>
  rw [AK,AK];refine .cons ?_ ih;obtain⟨h1,h2⟩:=h;by_cases e:p.1=k
  .rw [A7 e,A7 (h1.symm.trans e)];exact⟨h1,ry⟩
  .rw [A5 e,A5 (fun z=>e (h1.trans z))];exact⟨h1,h2⟩
theorem KV.put {kvs:List (κ×V)}{vs:List (κ×Value)} (r:KV kvs vs) (k:κ) {y:V}{u:Value} (ry:aZ_ y u):KV (dy_ kvs k y) (stored vs k u):=by
 unfold dy_ stored;rw [r.any k];by_cases e:(vs.any fun kv=>decide (kv.1=k))=true
 .rw [A7 e,A7 e];exact r.repl k ry
 .rw [A5 e,A5 e];exact Paired.snoc r ⟨rfl,ry⟩
theorem KV.length {kvs:List (κ×V)}{vs:List (κ×Value)} (r:KV kvs vs):kvs.length=vs.length:=Be r
end
theorem ot_ {P:Program}{w:World}{k:Key}{u:Value} (r:aZ_ (kV k) u):(aS_ P w).is k u=true:=by
 cases k with
 |inl i=>obtain⟨t,e⟩:=(show∃t,u=Value.int i t from r);subst e;exact i4_ P w i t
 |inr x=>obtain⟨t,e⟩:=(show∃t,u=Value.str x t from r);subst e;exact i3_ P w x t
theorem hO_ {P:Program}{w:World}:∀{ks:List Key}{us:List Value},aV_ (ks.map kV) us->ItemsAre (aS_ P w) ks us
 |[],_,r=>by rw [D8] at r;cases r;exact .nil
 |k::ks,_,r=>by
  rw [AK] at r;cases r with
  |cons h t=>exact .cons (ot_ h) (hO_ t)
abbrev KT (H:Hp):List (List Key×V)->List (List Key×Addr×Value)->Prop:=Paired fun p q=>p.1=q.1/\H q.2.1=some (.tup (p.1.map kV))/\aZ_ p.2 q.2.2
theorem KT.val {H:Hp}{kvs:List (List Key×V)}{xs:List (List Key×Addr×Value)} (r:KT H kvs xs) (k:List Key):jo_ (dq_ kvs k) ((atKey xs k).map (·.2)):=by
 induction r with
 |nil=>exact True.intro
 | @cons p q ps qs h t ih=>
  obtain⟨h1,_,h2⟩:=h;by_cases e:p.1=k
  .have e':q.1=k:=h1.symm.trans e;have b:atKey (q::qs) k=some q.2:=by simp [atKey,BO,e']
   rw [bD_ e,b];exact h2
  .have e':¬q.1=k:=fun z=>e (h1.trans z);have b:atKey (q::qs) k=atKey qs k:=by simp [atKey,BO,e']
   rw [bE_ e,b];exact ih
theorem KT.repl {H:Hp}{kvs:List (List Key×V)}{xs:List (List Key×Addr×Value)} (r:KT H kvs xs) (k:List Key) {y:V}{u:Value} (ry:aZ_ y u):
  KT H (kvs.map fun kv=>if kv.1=k then(kv.1,y) else kv) (xs.map (putAt k u)):=by
 induction r with
 |nil=>exact .nil
 | @cons p q ps qs h t ih=>
  rw [AK,AK];refine .cons ?_ ih;obtain⟨h1,h2,h3⟩:=h;unfold putAt;by_cases e:p.1=k
  .rw [A7 e,A7 (h1.symm.trans e)];exact⟨h1,h2,ry⟩
  .rw [A5 e,A5 (fun z=>e (h1.trans z))];exact⟨h1,h2,h3⟩
theorem KT.put {H:Hp}{kvs:List (List Key×V)}{xs:List (List Key×Addr×Value)} (r:KT H kvs xs) (k:List Key) {b:Addr}{y:V}{u:Value} (hb:H b=some (.tup (k.map kV))) (ry:aZ_ y u):
  KT H (dy_ kvs k y) (storedH xs k b u):=by
 have e:(kvs.any fun kv=>decide (kv.1=k))=(atKey xs k).isSome:=by
  rw [ep_,(r.val k).isSome_eq,Option.isSome_map]
 unfold dy_ storedH;rw [e];by_cases q:(atKey xs k).isSome=true
 .rw [A7 q,A7 q];exact r.repl k ry
 .rw [A5 q,A5 q];exact Paired.snoc r ⟨rfl,hb,ry⟩
theorem KT.keeps {H H':Hp}{kvs:List (List Key×V)}{xs:List (List Key×Addr×Value)} (r:KT H kvs xs) (ht:∀b ys,H b=some (.tup ys)->H' b=some (.tup ys)):KT H' kvs xs:=
 Paired.mapP r fun _ _ z=>⟨z.1,ht _ _ z.2.1,z.2.2⟩
section
variable {P:Program}{w:World}{H:Hp}{h:Heap}{a:Addr}
theorem lZ_ {u:HO} (ok:HOk P w H h) (e:Rd H a u):aC_ P w H h a u:=e.ok ok
theorem m6_ {kvs:List (Key×V)} (ok:HOk P w H h) (e:Rd H a (.dK kvs)):kvs.length<=sizeLine/\(a==sysModules)=false/\∃vs,KV kvs vs/\h.DictOf (aS_ P w) a vs:=
 show aC_ P w H h a (.dK kvs) from lZ_ ok e
theorem ur_ {kvs:List (Key×V)} (ok:HOk P w H h) (e:H a=some (.dK kvs)):kvs.length<=sizeLine/\(a==sysModules)=false/\∃vs,KV kvs vs/\h.DictOf (aS_ P w) a vs:=m6_ ok (.inl e)
theorem hL_ {ks:List Key} (ok:HOk P w H h) (e:H a=some (.tup (ks.map kV))):(tupleKind (aS_ P w)).is h ks a:=by
 obtain⟨_,its,r,o,h1,h2,n,h3⟩:=(show aC_ P w H h a (.tup (ks.map kV)) from ok a _ e);exact⟨o,its.toArray,n,h1,h2,h3,by simpa using hO_ r⟩
theorem m5_ {kvs:List (List Key×V)} (ok:HOk P w H h) (e:Rd H a (.dT kvs)):kvs.length<=sizeLine/\(a==sysModules)=false/\
  ∃xs,KT H kvs xs/\h.DictOfH (tupleKind (aS_ P w)) a xs:=by
 obtain⟨z,y,xs,r,o,es,ep,h1,h2,h3,h4,h5⟩:=(show aC_ P w H h a (.dT kvs) from lZ_ ok e);refine⟨z,y,xs,r,o,es,ep,h1,h2,h3,h4,fun x hx=> ?_,h5⟩;have all:∀{l:List (List Key×V)}{m:List (List Key×Addr×Value)},KT H l m->∀x∈m,(tupleKind (aS_ P w)).is h x.1 x.2.1:=by
  intro l m q;induction q with
  |nil=>intro x hx;exact nomatch hx
  | @cons p q ps qs hq t ih=>
   intro x hx;rcases AJ.mp hx with e|hx
   .subst e;exact hL_ ok (by rw [<-hq.1];exact hq.2.1)
   .exact ih x hx
 exact all r x hx
theorem sH_ {kvs:List (List Key×V)} (ok:HOk P w H h) (e:H a=some (.dT kvs)):kvs.length<=sizeLine/\(a==sysModules)=false/\
  ∃xs,KT H kvs xs/\h.DictOfH (tupleKind (aS_ P w)) a xs:=m5_ ok (.inl e)
end
def nF_ (H:Hp) (a:Addr) (y:V) (r:Option V):Prop:=
 (∃kvs k,Rd H a (.dK kvs)/\y=kV k/\r=dq_ kvs k)\/∃kvs k b,Rd H a (.dT kvs)/\y= .ref b/\H b=some (.tup (k.map kV))/\r=dq_ kvs k
def oS_ (H:Hp) (a:Addr) (y v:V) (H':Hp):Prop:=
 (∃kvs k,H a=some (.dK kvs)/\y=kV k/\kvs.length<sizeLine/\H'=upd H a (.dK (dy_ kvs k v)))\/
 ∃kvs k b,H a=some (.dT kvs)/\y= .ref b/\H b=some (.tup (k.map kV))/\kvs.length<sizeLine/\H'=upd H a (.dT (dy_ kvs k v))
theorem nF_.t {H:Hp}{a b:Addr}{kvs:List (List Key×V)}{k:List Key} (e:H a=some (.dT kvs)) (eb:H b=some (.tup (k.map kV))):nF_ H a (.ref b) (dq_ kvs k):= .inr ⟨kvs,k,b, .inl e,rfl,eb,rfl⟩
theorem oS_.k {H:Hp}{a:Addr}{kvs:List (Key×V)}{k:Key}{v:V} (e:H a=some (.dK kvs)) (hl:kvs.length<sizeLine):oS_ H a (kV k) v (upd H a (.dK (dy_ kvs k v))):= .inl ⟨kvs,k,e,rfl,hl,rfl⟩
theorem oS_.t {H:Hp}{a b:Addr}{kvs:List (List Key×V)}{k:List Key}{v:V} (e:H a=some (.dT kvs)) (eb:H b=some (.tup (k.map kV))) (hl:kvs.length<sizeLine):
  oS_ H a (.ref b) v (upd H a (.dT (dy_ kvs k v))):= .inr ⟨kvs,k,b,e,rfl,eb,hl,rfl⟩
section
variable {X:Cx}{pins:List (Addr×Obj)}{σ:St}{H:Hp}{s:Shared}{a:Addr}{y v:V}{u r:Value}{o:Option V}{A:Around}{E:Value->Shared->Prop}
theorem Inv.big (I:Inv X pins σ H s):sysModules<s.heap.objs.size:=by
 have h:mainGlobals<s.heap.objs.size:=(I.mod.glob.keeps I.bk).lt;exact Nat.lt_trans (by decide) h
theorem nc_ {Q:Value->Shared->Prop} (hu:A.units+1<cLine) (I:Inv X pins σ H s) (g:nF_ H a y (some v)) (ry:aZ_ y u) (h:∀w' s',Inv X pins σ H s'->aZ_ v w'->Q w' s'):
  wpAny (model X.prog X.w) A (getItem (.ref a) u) Q E s:=by
 rcases g with⟨kvs,k,e,ey,l⟩|⟨kvs,k,b,e,ey,eb,l⟩
 .subst ey;obtain⟨z,hd,vs,rel,dd⟩:=m6_ I.hok e;obtain⟨w',hw,rw'⟩:=jo_.some_of (v:=v) (o:=valueAt vs k) (by rw [l];exact rel.val k);exact wpAny_getItem_of (ot_ ry) dd.mapOf hw (h w' _ (I.tok _) rw')
 .subst ey;cases (show u=Value.ref b from ry);obtain⟨z,hd,xs,rel,dd⟩:=m5_ I.hok e;obtain⟨w',hw,rw'⟩:=jo_.some_of (v:=v) (o:=(atKey xs k).map (·.2)) (by rw [l];exact rel.val k);obtain⟨p,hp,hp2⟩:=A4.mp hw;refine wpAny_getItem_heap (tupleKind_room_in1 hu) (hL_ I.hok eb) dd hp ?_;rw [hp2];exact h w' _ (I.tok _) rw'
theorem eb_ {h':Heap}{t':Nat}{ob:HO} (I:Inv X pins σ H s) (mu:Mut (H a)) (hs:Heap.SameBut a s.heap h') (he:∃q,h'.get? a=some q) (new:aC_ X.prog X.w (upd H a ob) h' a ob):
  Inv X pins σ (upd H a ob) {s with heap:=h',toks:=t'}:=
 I.write (x:=a) (e:=a) mu (.inl rfl) (fun b q hb z=>(hs.2 b hb).trans z) he new
theorem sJ_ {P:Program}{w:World}{H':Hp}{h':Heap}{kvs:List (Key×V)}{vs:List (Key×Value)} (z:kvs.length<=sizeLine) (hd:(a==sysModules)=false) (rel:KV kvs vs) (dd:h'.DictOf (aS_ P w) a vs):
  aC_ P w H' h' a (.dK kvs):=⟨z,hd,vs,rel,dd⟩
theorem nb_ {H':Hp}{Q:Unit->Shared->Prop} (hu:A.units+1<cLine) (I:Inv X pins σ H s) (g:oS_ H a y v H') (ry:aZ_ y u) (rv:aZ_ v r) (h:∀s',Inv X pins σ H' s'->Q () s'):
  wpAny (model X.prog X.w) A (setItem (.ref a) u r) Q E s:=by
 rcases g with⟨kvs,k,e,ey,l,eH⟩|⟨kvs,k,b,e,ey,eb,l,eH⟩
 .subst ey eH;obtain⟨z,hd,vs,rel,dd⟩:=ur_ I.hok e;have hz:vs.length<=sizeLine:=by rw [<-rel.length];exact z
  have hl:(dy_ kvs k v).length<=sizeLine:=by have:=dk_ kvs k v;lia
  refine wpAny_setItem_pairs (hsz:=hz) (ot_ ry) dd fun h' dd' hs=>h _ ?_;have he:∃q,h'.get? a=some q:=let ⟨q,_,_,hq,_⟩:=dd';⟨q,hq⟩;exact eb_ I (by rw [e];exact True.intro) hs he (sJ_ hl hd (rel.put k rv) dd')
 .subst ey eH;cases (show u=Value.ref b from ry);obtain⟨z,hd,xs,rel,dd⟩:=sH_ I.hok e;have hz:xs.length<=sizeLine:=by rw [<-Be rel];exact z
  have hl:(dy_ kvs k v).length<=sizeLine:=by have:=dk_ kvs k v;lia
  refine wpAny_setItem_heap (hsz:=hz) (tupleKind_room_in1 hu) (hL_ I.hok eb) dd fun h' dd' hs=>h _ ?_;obtain⟨q,es,ep,hq,h2,h3,h4,_,h5⟩:=dd';refine eb_ I (by rw [e];exact True.intro) hs ⟨q,hq⟩ ⟨hl,hd,_,(rel.put k eb rv).keeps fun c ys ec=> ?_,q,es,ep,hq,h2,h3,h4,h5⟩;rw [ak_ (qs_ ec e (fun z=>nomatch z))];exact ec
end
section
variable {X:Cx}{pins:List (Addr×Obj)}{σ:St}{H:Hp}{s:Shared}{a:Addr}{kvs:List (Key×V)}{k:Key}{u:Value}{A:Around}{E:Value->Shared->Prop}
end
def ti_ (i:Expr):Prop:=∀ov iv,subscripted i false ov iv=operate [ov,iv] (getItem ov iv)
theorem iy_ {prog:Program}{w:World}{A:Around}{E:Value->Shared->Prop}{s:Shared}{env:Env}{value slice:Expr}{pos:Pos}{T id:String}{Q:Value->Shared->Prop}
  (hl:typeLookup (.type T) "__getitem__"=pure (some (.builtin id))) (hs:ti_ slice)
  (h:wpAny (model prog w) A (eval value env) (fun o s₁=>wpAny (model prog w) A (eval slice env) (fun i s₂=>s₂.TypeIs o T/\wpAny (model prog w) A (getItem o i) Q E s₂) E s₁) E s):
  wpAny (model prog w) A (eval (.Subscript value slice pos) env) Q E s:=by
 refine Subscript_ (BU h (fun o s₁ h₁=>BU h₁ (fun i s₂ h₂=> ?_) fun _ _ x=>x) fun _ _ x=>x);obtain⟨hT,h₂⟩:=h₂;unfold subscriptTail;refine A0 ?_;rw [getitemInPython_of_ne hT.not_modules];refine A0 (CI hT hl ?_);have fin:wpAny (model prog w) A (subscripted slice false o i) (fun r s₃=>wpAny (model prog w) A (letTemporaryGo value o r>>=fun _=>pure r) Q E s₃) E s₂:=by
  rw [hs o i];exact wpAny_operating (BU h₂ (fun r s₃ h₃=>A0 (wpAny_letTemporaryGo (A2 h₃))) fun _ _ x=>x)
 first
  |exact A2 (A0 fin)
  |exact A0 (A2 (A0 fin))
  |exact A0 fin
theorem ji_ {X:Cx}{pins:List (Addr×Obj)}{σ:St}{H:Hp}{s:Shared}{a:Addr}{y:V}{o:Option V} (I:Inv X pins σ H s) (g:nF_ H a y o):s.TypeIs (.ref a) "dict":=by
 rcases g with⟨kvs,k,e,_,_⟩|⟨kvs,k,b,e,_,_,_⟩
 .obtain⟨_,_,vs,_,dd⟩:=m6_ I.hok e;exact dd.typeIs
 .obtain⟨_,_,xs,_,dd⟩:=m5_ I.hok e;exact dd.typeIs
def tz_ (td ty:TE):TE:=fun σ H Q=>td σ H fun x H1=>ty σ H1 fun y H2=>∃a v,x= .ref a/\nF_ H2 a y (some v)/\Q v H2
def t5_ (td ty tv:TE):TS:=fun D σ H=>tv σ H fun v H1=>td σ H1 fun x H2=>ty σ H2 fun y H3=>∃a H4,x= .ref a/\oS_ H3 a y v H4/\D.nx σ H4
section
variable {X:Cx}{o i e value:Expr}{pos pos' tpos:Pos}{td ty tv:TE}
theorem df_ (hu:X.A.units+1<cLine) (ho:PE X o td) (hi:PE X i ty) (hs:ti_ i):PE X (.Subscript o i pos) (tz_ td ty):=by
 intro pins s σ H Q I h;refine iy_ PySem.F.slot_dict_getitem.lookup hs (thn (ho pins s σ H _ I h) fun u s1 ⟨x,H1,I1,rx,q1⟩=>thn (hi pins s1 σ H1 _ I1 q1) fun iv s2 ⟨y,H2,I2,ry,a,v,ex,g,q2⟩=> ?_);subst ex;obtain rfl:u=Value.ref a:=rx;exact⟨ji_ I2 g,nc_ hu I2 g ry fun w' s3 I3 rw'=>⟨v,H2,I3,rw',q2⟩⟩
theorem iM_ (hu:X.A.units+1<cLine) (ho:PE X o td) (hi:PE X i ty) (hv:PE X value tv) (hs:swapsWith value (some (.Subscript o i pos')) pos.line X.env=pure false):
  PS X (.Assign [.Subscript o i pos'] value pos) (t5_ td ty tv):=by
 intro pins s σ H D I h;refine wpAny_Assign_Subscript (thn (hv pins s σ H _ I h) fun r s1 ⟨v,H1,I1,rv,q1⟩=>thn (ho pins s1 σ H1 _ I1 q1) fun u s2 ⟨x,H2,I2,rx,q2⟩=>thn (hi pins s2 σ H2 _ I2 q2) fun iv s3 ⟨y,H3,I3,ry,a,H4,ex,g,q3⟩=> ?_) hs;subst ex;obtain rfl:u=Value.ref a:=rx;exact nb_ hu I3 g ry rv fun s4 I4=>⟨σ,H4,I4,q3⟩
end
theorem oJ_ {P:Program}{w:World}{H:Hp} (h:Heap) (hb:sysModules<h.objs.size):aC_ P w H (h.push {cls:= .type "dict",data:= .dict #[]}) h.objs.size (.dK []):=
 ⟨AM _,CU.mpr (C9 (AL hb)),[], .nil,Heap.DictOf.new h⟩
theorem kn_ {P:Program}{w:World}{H:Hp} (h:Heap) (hb:sysModules<h.objs.size):aC_ P w H (h.push {cls:= .type "dict",data:= .dict #[]}) h.objs.size (.dT []):=
 ⟨AM _,CU.mpr (C9 (AL hb)),[], .nil,_, #[],0,AF _ rfl,⟨rfl,rfl,rfl⟩,rfl,rfl,List.nodup_nil⟩
def ry_:TE:=fun _ H Q=>∀p,H p=none->Q (.ref p) (upd H p (.dK []))
def rx_:TE:=fun _ H Q=>∀p,H p=none->Q (.ref p) (upd H p (.dT []))
section
variable {X:Cx}{pos:Pos}
theorem jJ_:PE X (.Dict [] [] pos) ry_:=fun pins s σ H Q I h=>
 wpAny_Dict_empty ⟨.ref s.heap.objs.size,_,I.laid (a:=s.heap.objs.size) (o:= .dK []) (t':=s.toks) (fun _ _ q=>A6 _ q) (AA _) (oJ_ s.heap I.big),rfl,h _ (I.hok.fresh (AA _))⟩
theorem n5_:PE X (.Dict [] [] pos) rx_:=fun pins s σ H Q I h=>
 wpAny_Dict_empty ⟨.ref s.heap.objs.size,_,I.laid (a:=s.heap.objs.size) (o:= .dT []) (t':=s.toks) (fun _ _ q=>A6 _ q) (AA _) (kn_ s.heap I.big),rfl,h _ (I.hok.fresh (AA _))⟩
end
structure M2 (X:Cx) (o:Expr) (m:Str) (apos:Pos) (e f:Expr) (cpos:Pos):Prop where
 base:attributeBase o m X.env (eval o X.env)=eval o X.env
 few:((backTo cpos (starEach [e,f] X.env)).all (fun x=> !x.1)&&(backToKw cpos (keywordEach [] X.env)).all (fun x=>x.1.isSome)
  &&decide (([e,f]:List Expr).length+([]:List Keyword).length+(if([]:List Keyword).isEmpty then 0 else 1)<30))=true
 line:(apos.endLine==cpos.line)=true
 trees:backTo cpos (starEach [e,f] X.env)=[(false,eval e X.env),(false,eval f X.env)]
def IsD (H:Hp) (a:Addr):Prop:=(∃kvs,Rd H a (.dK kvs))\/∃kvs,Rd H a (.dT kvs)
theorem pl_ {X:Cx}{pins:List (Addr×Obj)}{σ:St}{H:Hp}{s:Shared}{a:Addr} (I:Inv X pins σ H s) (d:IsD H a):
  s.TypeIs (.ref a) "dict"/\(∀b,Value.ref a= .ref b->∃ob,s.heap.get? b=some ob/\ob.dict=none)/\(a==sysModules)=false:=by
 rcases d with⟨kvs,e⟩|⟨kvs,e⟩
 .obtain⟨_,hd,vs,_,dd⟩:=m6_ I.hok e;refine⟨dd.typeIs,fun b q=> ?_,hd⟩;cases q;obtain⟨ob,_,_,h1,h2,_⟩:=dd;exact⟨ob,h1,h2.2.1⟩
 .obtain⟨_,hd,xs,_,dd⟩:=m5_ I.hok e;refine⟨dd.typeIs,fun b q=> ?_,hd⟩;cases q;obtain⟨ob,_,_,h1,h2,_⟩:=dd;exact⟨ob,h1,h2.2.1⟩
section
variable {X:Cx}{pins:List (Addr×Obj)}{σ:St}{H:Hp}{s:Shared}{a:Addr}{y d:V}{u r:Value}{o:Option V}{A:Around}{E:Value->Shared->Prop}
theorem sL_ {Q:Value->Shared->Prop} (hu:A.units+1<cLine) (I:Inv X pins σ H s) (g:nF_ H a y o) (ry:aZ_ y u) (rd:aZ_ d r) (h:∀w' s',Inv X pins σ H s'->aZ_ (o.getD d) w'->Q w' s'):
  wpAny (model X.prog X.w) A (call (.builtin "dict.get") [.ref a,u,r]) Q E s:=by
 rcases g with⟨kvs,k,e,ey,l⟩|⟨kvs,k,b,e,ey,eb,l⟩
 .subst ey;obtain⟨z,hd,vs,rel,dd⟩:=m6_ I.hok e;refine call_meetsIn PySem.F.slot_dict_get dd.typeIs PySem.F.entry_dict_get (PySem.F.args_dict_get_3 _ _ _) (meets_dict_get_default (aS_ X.prog X.w) a (ot_ ry) hd r) ⟨_,dd.mapOf,h _ _ (I.tok _) ?_⟩;rw [l];exact(rel.val k).getD rd
 .subst ey;cases (show u=Value.ref b from ry);obtain⟨z,hd,xs,rel,dd⟩:=m5_ I.hok e;refine call_meetsIn PySem.F.slot_dict_get dd.typeIs PySem.F.entry_dict_get (PySem.F.args_dict_get_3 _ _ _) (meetsH_dict_get_default (tupleKind (aS_ X.prog X.w)) a b hd r) ⟨tupleKind_room_in1 hu,k,xs,hL_ I.hok eb,dd,h _ _ (I.tok _) ?_⟩;rw [l];exact(rel.val k).getD rd
end
def rA_ (td ty tx:TE):TE:=fun σ H Q=>td σ H fun x H1=>∃a,x= .ref a/\IsD H1 a/\ty σ H1 fun y H2=>tx σ H2 fun z H3=>∃o,nF_ H3 a y o/\Q (o.getD z) H3
section
variable {X:Cx}{o e f:Expr}{apos cpos:Pos}{td ty tx:TE}
theorem n8_ (hu:X.A.units+1<cLine) (ho:PE X o td) (he:PE X e ty) (hf:PE X f tx) (m:M2 X o "get" apos e f cpos):PE X (.Call (.Attribute o "get" apos) [e,f] [] cpos) (rA_ td ty tx):=by
 intro pins s σ H Q I h;refine wpAny_Call_method m.base m.few m.line PySem.F.plainAttrs_dict PySem.F.slot_dict_get PySem.F.type_dict_get (thn (ho pins s σ H _ I h) fun u s1 ⟨x,H1,I1,rx,a,ex,d,q1⟩=> ?_);subst ex;obtain rfl:u=Value.ref a:=rx;obtain⟨t1,t2,_⟩:=pl_ I1 d;refine⟨t1,t2, ?_⟩;rw [m.trees];refine Calls.callWith_builtin rfl (Calls.evalArgs_plain (Cu (thn (he pins s1 σ H1 _ I1 q1) fun iv s2 ⟨y,H2,I2,ry,q2⟩=>
  Cu (thn (hf pins s2 σ H2 _ I2 q2) fun fv s3 ⟨z,H3,I3,rz,ov,g,q3⟩=>Calls.spliced_nil ?_))))
 exact sL_ hu I3 g ry rz fun w' s4 I4 rw'=>⟨_,H3,I4,rw',q3⟩
end
section
variable {X:Cx}{pins:List (Addr×Obj)}{σ:St}{H:Hp}{s:Shared}{a:Addr}{kvs:List (Key×V)}{A:Around}{E:Value->Shared->Prop}
end
section
variable {X:Cx}{pins:List (Addr×Obj)}{σ:St}{H:Hp}{s:Shared}{a:Addr}{y:V}{u:Value}{A:Around}{E:Value->Shared->Prop}
end
end L2
namespace L2
open PySem PySem.Spec PyProof.Rows
section
variable {X:Cx}{pos:Pos}{a b c d:Expr}{ta tb tc td:TE}
theorem cS_:bQ_ X (.builtin "isinstance") (fun xs H Q=>∃x n t b,xs=[x, .ty n]/\TyOf X.K H x t/\W.kitOne X.K t (.type n)=some b/\Q (.bl b) H):=by
 intro pins s σ H xs us Q I r h;obtain⟨x,n,t,b,rfl,ty,e,q⟩:=h;obtain⟨u,w',rfl,ru,rw'⟩:=ls_ r;obtain rfl:w'=Value.type n:=rw';exact mK_ I ru ty e fun tk=>⟨.bl b,H,I.tok tk,rfl,q⟩
end
section
open PySem.W
variable {K:Frag}
theorem ex_ {t:String}:kitOne K (.type t) (.type t)=some true:=by
 unfold kitOne;rw [A7 (by simp)]
theorem fJ_ {t c:String}{b:Bool} (h1:(Value.type t==Value.type c)=false) (h2:kitMeta c=true) (h3:(fastBuiltinMro t).map (·.contains (Value.type c))=some b):kitOne K (.type t) (.type c)=some b:=by
 unfold kitOne;rw [A5 (by rw [h1];decide)];unfold kitCls;show(if kitMeta c=true then subIn K (.type t) (.type c) else none)=some b;rw [A7 h2];exact h3
theorem eh_:kitOne K (.type "int") (.type "bool")=some false:=fJ_ (by ac_nf) (by ac_nf) (by ac_nf)
theorem hJ_:kitOne K (.type "bool") (.type "int")=some true:=fJ_ (by ac_nf) (by ac_nf) (by ac_nf)
end
theorem hP_ {c A B:Prop} [Decidable c] (h1:c->A) (h2:¬c->B):if decide c=true then A else B:=by
 by_cases h:c
 .rw [A7 (BF h)];exact h1 h
 .rw [A5 (by rw [Ak h];decide)];exact h2 h
theorem ui_ {c A B:Prop} [Decidable c] (h1:¬c->A) (h2:c->B):if(!decide c)=true then A else B:=by
 by_cases h:c
 .rw [A5 (by rw [BF h];decide)];exact h2 h
 .rw [A7 (by rw [Ak h];rfl)];exact h1 h
theorem qG_ {A B:Prop}{i j:Int} (h1:i=j->A) (h2:i≠j->B):if decide (V.int i=V.int j)=true then A else B:=hP_ (fun h=>h1 (V.int.inj h)) fun h=>h2 fun e=>h (Bb V.int e)
theorem qF_ {A B:Prop}{i j:Int} (h1:i≠j->A) (h2:i=j->B):if(!decide (V.int i=V.int j))=true then A else B:=ui_ (fun h=>h1 fun e=>h (Bb V.int e)) fun h=>h2 (V.int.inj h)
theorem an_.put {H H1:Hp}{l:Addr}{o:HO} (s:an_ H H1) (n:H l=none):an_ H (upd H1 l o):=fun b u e=>by
 rw [ak_ (ay_ e n)];exact s b u e
theorem an_.new {H:Hp}{l:Addr}{o:HO} (n:H l=none):an_ H (upd H l o):=(an_.refl H).put n
end L2
namespace L2
open PySem PySem.Spec PyProof.Rows
theorem nd_ {prog:Program}{w:World}{A:Around}{R:Result->Shared->Prop}{s:Shared}{elt target iter:Expr}{ifs:List Expr}{scope:Scope}{pos:Pos}{it acc:Value}{env:Env} (I:Nat->Shared->Prop)
  (turn:∀n s,I n s->wpAny (model prog w) A (pyNext it) (fun r s₁=>match r with
   |none=>R (.ok .next) s₁
   |some v=>wpAny (model prog w) A (letOwnedTupleGo target it v) (fun _ s₁'=>wpAny (model prog w) A (assign target env v) (fun _ s₂=>
     wpAny (model prog w) A (forIn ifs true fun c r=>if r=true then do let ok<-isTrue c env (eval c env);pure (ForInStep.yield ok) else pure (ForInStep.yield r)) (fun ok s₃=>
      if ok=true then wpAny (model prog w) A (eval elt env) (fun x s₄=>
       wpAny (model prog w) A (call (.builtin "list.append") [acc,x]) (fun _ s₅=>∃m,m<n/\I m s₅) (notedBy (model prog w) A env fun e s'=>R (.error e) s') s₄) (notedBy (model prog w) A env fun e s'=>R (.error e) s') s₃
      else∃m,m<n/\I m s₃) (notedBy (model prog w) A env fun e s'=>R (.error e) s') s₂) (notedBy (model prog w) A env fun e s'=>R (.error e) s') s₁') (notedBy (model prog w) A env fun e s'=>R (.error e) s') s₁) (notedBy (model prog w) A env fun e s'=>R (.error e) s') s)
  (n:Nat) (h:I n s):
  codeAny (model prog w) A (.compLoop (.ListComp elt [⟨target,iter,ifs,0⟩] scope pos) 0 it acc env) R s:=by
 refine codeAny_loop rfl I (fun n s hI=> ?_) n h;show wpAny _ A ((compTurn (.ListComp elt [⟨target,iter,ifs,0⟩] scope pos) 0 it acc env).onRaise (fun x=>do noteFrame x env;theTreesLotGoes x)) _ _ s;refine wpAny_noted ?_;rw [compTurn_list];refine A0 (wpAny_standAt (A0 (BU (turn n s hI) (fun r s₁ h₁=> ?_) fun _ _ h'=>h')));cases r with
 |none=>exact A2 h₁
 |some v=>
  refine A0 (BU h₁ (fun _ s₁' h₁'=>A0 (BU h₁' (fun _ s₂ h₂=>A0 (BU h₂ (fun ok s₃ h₃=> ?_) fun _ _ h'=>h')) fun _ _ h'=>h')) fun _ _ h'=>h');cases ok with
  |false=>exact A2 ⟨rfl,h₃⟩
  |true=>
   exact A0 (A0 (BU h₃ (fun x s₄ h₄=>A0 (BU h₄ (fun _ s₅ h₅=>A2 (A2 ⟨rfl,h₅⟩)) fun _ _ h'=>h')) fun _ _ h'=>h'))
def jk_ (env:Env):List (Str×NameKind)->List (Str×Addr)->List (Str×Addr)
 |[],cs=>cs
 |(n,k)::r,cs=>jk_ env r (if k= .free then(n,(env.cells.lookup n).getD 0)::cs else cs)
theorem gP_ {env:Env}:∀(ns:List (Str×NameKind)) (cs:List (Str×Addr)),(∀y∈ns,y.2= .free->∃c,env.cells.lookup y.1=some c)->
  (forIn ns cs fun(x:Str×NameKind) (r:List (Str×Addr))=>(if(x.2== .free)=true then do let c<-cellOf env x.1;pure (ForInStep.yield ((x.1,c)::r)) else pure (ForInStep.yield r):Sem (ForInStep (List (Str×Addr)))))=(pure (jk_ env ns cs):Sem _)
 |[],cs,_=>rfl
 |(n,k)::r,cs,h=>by
  have hr:=fun y hy=>h y (AR _ hy);by_cases hk:k= .free
  .obtain⟨c,hc⟩:=h (n,k) AX hk;subst hk;rw [CY];have e:cellOf env n=pure c:=by unfold cellOf;rw [hc]
   simp only [beq_self_eq_true,C2,e,pure_bind];rw [gP_ r _ hr];show _=pure (jk_ env r (if NameKind.free=NameKind.free then(n,(env.cells.lookup n).getD 0)::cs else cs));rw [A7 rfl,show env.cells.lookup n=some c from hc];rfl
  .have hb:(k==NameKind.free)=false:=by simpa using hk
   rw [CY];simp only [hb,AH,Am,pure_bind];rw [gP_ r _ hr];show _=pure (jk_ env r (if k=NameKind.free then(n,(env.cells.lookup n).getD 0)::cs else cs));rw [A5 hk]
theorem k7_ {env:Env}{scope:Scope} (h:∀y∈scope.names,y.2= .free->∃c,env.cells.lookup y.1=some c):closureFor scope env=pure (jk_ env scope.names []):=by
 unfold closureFor;have e:=gP_ scope.names [] h;simp only [bind_pure] at e⊢;exact e
theorem fb_ {env:Env}{x:Str}{c:Addr}:∀(ns:List (Str×NameKind)) (cs:List (Str×Addr)),(∀y∈ns,y.2= .free->∃c,env.cells.lookup y.1=some c)->(∀x c,cs.lookup x=some c->env.cells.lookup x=some c)->
  (jk_ env ns cs).lookup x=some c->env.cells.lookup x=some c
 |[],cs,_,hc,e=>hc x c e
 |(n,k)::r,cs,h,hc,e=>by
  unfold jk_ at e;refine fb_ r _ (fun y hy=>h y (AR _ hy)) (fun x' c' e'=> ?_) e;by_cases hk:k= .free
  .rw [A7 hk] at e';obtain⟨c0,h0⟩:=h (n,k) AX hk;rw [h0] at e';rw [CA] at e';by_cases q:x'==n
   .rw [q] at e';cases e';rw [Cy.mp q];exact h0
   .have q':(x'==n)=false:=by simpa using q
    rw [q'] at e';exact hc x' c' e'
  .rw [A5 hk] at e';exact hc x' c' e'
theorem h3_ {env:Env}{x:Str}:∀(ns:List (Str×NameKind)) (cs:List (Str×Addr)),(∃c,cs.lookup x=some c)->∃c,(jk_ env ns cs).lookup x=some c
 |[],cs,h=>h
 |(n,k)::r,cs,h=>by
  unfold jk_;refine h3_ r _ ?_;by_cases hk:k= .free
  .rw [A7 hk,CA];by_cases q:x==n
   .rw [q];exact⟨_,rfl⟩
   .have q':(x==n)=false:=by simpa using q
    rw [q'];exact h
  .rw [A5 hk];exact h
theorem gQ_ {env:Env}{x:Str}:∀(ns:List (Str×NameKind)) (cs:List (Str×Addr)),(x,NameKind.free)∈ns->∃c,(jk_ env ns cs).lookup x=some c
 |(n,k)::r,cs,h=>by
  unfold jk_;rcases AJ.mp h with e|e
  .cases e;rw [A7 rfl];exact h3_ r _ ⟨_,by rw [CA,beq_self_eq_true]⟩
  .exact gQ_ r _ e
def Cx.comp (X:Cx) (scope:Scope) (C:Addr) (N:List Str) (s₀:Shared) (H₀:Hp) (ex:List Addr) (E:Value->Shared->Prop):Cx where
 prog:=X.prog
 w:=X.w
 K:=X.K
 mg:=X.mg
 base:=X.base
 A:=X.A
 N:=N
 s₀:=s₀
 H₀:=H₀
 env:=compEnvC scope (jk_ X.env scope.names []) C X.env
 outer:=X.stack
 stack:=X.stack
 ex:=ex
 fn:=fun _=>false
 calm:=X.calm
 pn:=[]
 xe:=E
def s4_ (X:Cx) (ifs:List Expr) (t:TT):Prop:=
 ∀(pins:List (Addr×Obj)) (s:Shared) (σ:St) (H:Hp) (Q:Bool->Hp->Prop),Inv X pins σ H s->t σ H Q->
  wpAny (model X.prog X.w) X.A (forIn ifs true fun c r=>if r=true then do let ok<-isTrue c X.env (eval c X.env);pure (ForInStep.yield ok) else pure (ForInStep.yield r)) (TP X pins σ Q) X.xe s
def s9_:TT:=fun _ H Q=>Q true H
theorem cf_ {X:Cx}:s4_ X [] s9_:=fun _ _ _ H _ I h=>wpAny_tests_nil ⟨H,I,h⟩
theorem n2_ {X:Cx}{c:Expr}{t:TT} (h:PT X c t):s4_ X [c] t:=fun pins s σ H Q I q=>wpAny_tests_one (h pins s σ H Q I q)
def k8_ (own:Nat) (js:List Nat) (σ:St):St:=List.replicate own none++js.map fun j=>(σ[j]?).getD none
def lh_ (J:It) (own:Nat) (js:List Nat) (g:TG) (ti:TT) (te:TE) (σ:St) (H1:Hp) (acc:Addr) (Q:VK):Prop:=
 ∃Wq:Nat->Nat->Hp->Prop,(∃m,Wq 0 m (upd H1 acc (.lst [])))/\∀i m H2,Wq i m H2->
  (J.stop i H2/\Q (.ref acc) H2)\/(J.go i H2/\∀x H3,J.yld i H2 x H3->g x (k8_ own js σ) H3 fun σ4 H4=>ti σ4 H4 fun b H5=>
   if b=true then te σ4 H5 fun y H6=>de_ (.ref acc) [y] H6 fun _ H7=>∃m',m'<m/\Wq (i+1) m' H7 else∃m',m'<m/\Wq (i+1) m' H5)
def pR_ (own:Nat) (js:List Nat) (wi:TI) (g:TG) (ti:TT) (te:TE):TE:=fun σ H Q=>wi σ H fun J H1=>∀acc,H1 acc=none->lh_ J own js g ti te σ H1 acc Q
end L2
namespace L2
open PySem PySem.Spec PyProof.Rows
theorem pM_ {α:Type}{t:Sem α}{Q Q':α->Shared->Prop}{M:Model}{A:Around}{E:Value->Shared->Prop}{s:Shared} (h:wpAny M A t Q (fun _ _=>False) s) (hQ:∀a s,Q a s->Q' a s):wpAny M A t Q' E s:=BU h hQ fun _ _ f=>f.elim
theorem cA_ {scope:Scope}{env:Env}{x:Str}:∀{names:List (Str×NameKind)},((names.map fun(n,k)=>if(k==NameKind.free&&env.scope.kind== .function&&env.kindOf n==some .cell) then(n,NameKind.cell) else(n,k)).lookup x=some .cell\/
  (names.map fun(n,k)=>if(k==NameKind.free&&env.scope.kind== .function&&env.kindOf n==some .cell) then(n,NameKind.cell) else(n,k)).lookup x=some .free)->(∀y∈names,y.2≠ .cell)->(x,NameKind.free)∈names
 |[],h,_=>by simp at h
 |(n,k)::r,h,hc=>by
  have hr:∀y∈r,y.2≠ .cell:=fun y hy=>hc y (AR _ hy);have h0:k≠ .cell:=hc (n,k) AX;rw [AK,CA] at h;by_cases hb:(k==NameKind.free&&env.scope.kind== .function&&env.kindOf n==some .cell)=true
  .rw [A7 hb] at h;dsimp only at h;by_cases q:x==n
   .have hk:k= .free:=by simp only [AN,Cy] at hb;exact hb.1.1
    rw [Cy.mp q,hk];exact AX
   .have q':(x==n)=false:=by simpa using q
    rw [q'] at h;exact AR _ (cA_ (scope:=scope) h hr)
  .rw [A5 hb] at h;dsimp only at h;by_cases q:x==n
   .rw [q] at h;dsimp only at h;have hk:k= .free:=by
     rcases h with h|h
     .exact absurd (Ae h) h0
     .exact Ae h
    rw [Cy.mp q,hk];exact AX
   .have q':(x==n)=false:=by simpa using q
    rw [q'] at h;exact AR _ (cA_ (scope:=scope) h hr)
def s5_ (own:Nat) (g:TG):Prop:=∀v σ H (Q:St->Hp->Prop),g v σ H Q->g v σ H fun σ' H'=>Q σ' H'/\σ'.length=σ.length/\∀i,own<=i->σ'[i]? =σ[i]?
theorem cD_ {i own:Nat} (h:i<own):s5_ own (eo_ i):=fun v σ H Q q=>⟨q,Bn ..,fun j hj=>by rw [CL (by lia)]⟩
theorem jl_ (own:Nat) (js:List Nat) (σ:St):(k8_ own js σ).length=own+js.length:=by simp [k8_]
theorem h4_ {own:Nat}{js:List Nat}{σ:St}{i:Nat}{v:V} (h:(k8_ own js σ)[i]? =some (some v)):own<=i/\∃j,js[i-own]? =some j/\σ[j]? =some (some v):=by
 unfold k8_ at h;by_cases hi:i<own
 .rw [List.getElem?_append_left (by simpa using hi),List.getElem?_replicate,A7 hi] at h;cases h
 .rw [CM (by simpa using hi),BC,A9] at h;refine⟨by lia, ?_⟩;cases e:js[i-own]? with
  |none=>rw [e] at h;cases h
  |some j=>
   rw [e] at h;refine⟨j,rfl, ?_⟩;have h':(σ[j]?).getD none=some v:=Ae h;cases e2:σ[j]? with
   |none=>rw [e2] at h';cases h'
   |some o=>rw [e2] at h';exact Bb some h'
theorem ne_ {X:Cx}{elt tg iter:Expr}{ifs:List Expr}{scope:Scope}{pos ps:Pos}{N:List Str}{own:Nat}{js:List Nat}{wi:TI}{g:TG}{ti:TT}{te:TE} (hc:X.calm=true)
  (hcell:∀y∈scope.names,y.2≠ .cell) (hkind:scope.kind= .function) (hnames:∀y∈scope.names,y.2= .local->scope.names.lookup y.1=some .local)
  (hfree:∀y∈scope.names,y.2= .free->X.env.kindOf y.1=some .cell\/X.env.kindOf y.1=some .free) (hlen:N.length=own+js.length)
  (hcap:∀(i j:Nat) (x:Str),js[i]? =some j->N[own+i]? =some x->X.N[j]? =some x/\(x,NameKind.free)∈scope.names/\(X.env.kindOf x=some .cell\/X.env.kindOf x=some .free)/\((relabel scope X.env).names.lookup x=some .cell\/(relabel scope X.env).names.lookup x=some .free))
  (hi:PI X tg iter wi) (hg:∀C s₀ H₀ ex,PG (X.comp scope C N s₀ H₀ ex fun _ _=>False) tg g) (ho:s5_ own g) (ht:∀C s₀ H₀ ex,s4_ (X.comp scope C N s₀ H₀ ex fun _ _=>False) ifs ti) (he:∀C s₀ H₀ ex,PE (X.comp scope C N s₀ H₀ ex fun _ _=>False) elt te)
  {pins:List (Addr×Obj)}{s:Shared}{σ:St}{H:Hp}{Q:VK}{use:Option (Value->Sem Unit)}{RQ:Value->Shared->Prop} (I:Inv X pins σ H s) (h:pR_ own js wi g ti te σ H Q)
  (fin:∀(acc C:Addr) (H3:Hp) (s4:Shared) (m:Str->Option Value),Inv X pins σ H3 s4->s4.heap.Ns C m->H3 C=none->C≠X.env.locals->C∉X.fs->X.s₀.heap.objs.size<=C->(∀x c,X.env.cells.lookup x=some c->c≠C)->(∀p∈X.pn++pins,p.1≠C)->
   Q (.ref acc) H3->compPost (model X.prog X.w) X.A X.xe use RQ (.ref acc) C (.ok .next) s4)
  (hs:∀x,foldedSetIterable iter X.env x=pure x:=by intro _;rfl):
  wpAny (model X.prog X.w) X.A (comprehension (.ListComp elt [⟨tg,iter,ifs,0⟩] scope pos) scope X.env ps (newList []) false (eval iter X.env) use) RQ X.xe s:=by
 have hcl:∀y∈scope.names,y.2= .free->∃c,X.env.cells.lookup y.1=some c:=fun y hy hf=>I.ok.has y.1 (hfree y hy hf);refine wpAny_comprehension_free (use:=use) rfl hs (k7_ hcl) hkind hnames (thn (hi pins s σ H _ I h) fun v s1 h1=>thn h1 fun itv s2 h2=> ?_);obtain⟨it,fp,tn,J,H2,e,I2,T,st2,f2,q⟩:=h2;subst e;have nf:H2 s2.heap.objs.size=none:=I2.hok.fresh (AA _);obtain⟨Wq,⟨m0,w0⟩,turn⟩:=q s2.heap.objs.size nf;refine Aq (wpAny_newFunctionEnv hcell (by intro y hy;simp at hy) (fun h₁ hns₁ hsb₁=> ?_) hkind);dsimp only at hns₁ hsb₁⊢;generalize hP2:s2.heap.push {cls:= .type "list",dict:=none,data:= .seq ([]:List Value).toArray}=P2 at hns₁ hsb₁⊢;have hC:P2.objs.size=s2.heap.objs.size+1:=by rw [<-hP2,Az]
 have hC1:s2.heap.objs.size<P2.objs.size:=by rw [hC];exact BP _
 have kp:∀b o,s2.heap.get? b=some o->h₁.get? b=some o:=fun b o e=>hsb₁.extBut b o (AL (Nat.lt_trans (AI e) hC1)) (A6 _ (hP2▸A6 _ e));have hacc:h₁.get? s2.heap.objs.size=some {cls:= .type "list",dict:=none,data:= .seq ([]:List Value).toArray}:=hsb₁.extBut _ _ (AL hC1) (A6 _ (hP2▸AF _ rfl));have lkc:∀x c,(jk_ X.env scope.names []).lookup x=some c->X.env.cells.lookup x=some c:=fun x c e=>fb_ scope.names [] hcl (fun _ _ z=>by simp at z) e;have cne:∀x c,(jk_ X.env scope.names []).lookup x=some c->c<s2.heap.objs.size/\H2 c=none:=fun x c e=>by
  obtain⟨v,o,ho,hd⟩:=I2.cell x c (lkc x c e);exact⟨AI ho,I2.freeC x c (lkc x c e)⟩
 have fpl:∀b∈fp,b<s2.heap.objs.size:=fun b hb=>by
  obtain⟨o,e,_⟩:=T.obj 0 _ st2 b hb;exact AI e
 have hX:(X.comp scope P2.objs.size N s2 H2 fp fun _ _=>False).Ok:={
  mod:=I.ok.mod
  kind:=hkind
  glob:=I.ok.glob
  blt:=I.ok.blt
  above:=An hC1
  inj:=fun x y c a b=>I.ok.inj x y c (lkc x c a) (lkc y c b)
  has:=fun x hx=>gQ_ scope.names [] (cA_ (scope:=scope) (env:=X.env) hx hcell)
  cab:=fun x c a _=>by cases (show false=true from a)
  hd:=I.ok.hd
  frames:=I.ok.frames
  stk:= .inl rfl
  exf:=fun b hb=>⟨AL (Nat.lt_trans (fpl b hb) hC1),fun x c a=>(f2 b hb).2.2.2.2.1 x c (lkc x c a)⟩
  bs:=I2.bs
  bsz:=B6 I.ok.bsz I2.sz
  noex:=fun b o e hb=>by
   rcases(f2 b hb).2.2.2.1 with z|z
   .exact I.ok.noex b o e z
   .exact absurd (Ag (Ag (AI e) I.ok.bsz) z) (Bk _)
  exfs:=fun b hb z=>by
   rcases AJ.mp (I2.stkSub b z) with z|z
   .exact(f2 b hb).2.1 z
   .exact(f2 b hb).2.2.1 z
  funs:=I2.stack
  frf:=I2.stkFree}
 have I3:∀tk,Inv (X.comp scope P2.objs.size N s2 H2 fp fun _ _=>False) [] (k8_ own js σ) (upd H2 s2.heap.objs.size (.lst [])) {s2 with heap:=h₁,toks:=tk}:=fun tk=>{
  ok:=hX
  os:=rfl
  bare:=I2.bare
  base:=Un.laid kp (AA _) nf
  loc:=⟨_,hns₁,fun i x v a b c=>by
   obtain⟨hio,j,hj,hv⟩:=h4_ b;obtain⟨h3,h4,h5,h6⟩:=hcap (i-own) j x hj (by rw [show own+(i-own)=i by lia];exact a);obtain⟨m,hn,hl⟩:=I2.loc;obtain⟨u,ru,lk⟩:=hl j x v h3 hv (.inr h5);refine⟨u,ru, .inr ⟨h6, ?_⟩⟩;rcases lk with⟨z,_⟩|⟨_,c0,z1,z2⟩
   .rcases h5 with h5|h5<;>(rw [h5] at z;cases z)
   .obtain⟨c1,hc1⟩:=gQ_ (env:=X.env) scope.names [] h4;have:=lkc x c1 hc1;rw [z1] at this;cases this;obtain⟨o,ho,hd⟩:=z2;exact⟨c0,hc1,o,kp _ _ ho,hd⟩⟩
  cell:=fun x c a=>by
   obtain⟨v,o,ho,hd⟩:=I2.cell x c (lkc x c a);exact⟨v,o,kp _ _ ho,hd⟩
  free:=by
   show upd H2 _ _ P2.objs.size=none;rw [ak_ (BW hC1)];exact I2.hok.fresh (An hC1)
  freeC:=fun x c a=>by
   rw [ak_ (AL (cne x c a).1)];exact(cne x c a).2
  pin:=fun p hp=>absurd (show p∈([]:List (Addr×Obj)) from hp) (by simp)
  hok:=I2.hok.laid kp (AA _) ⟨AM _,[],0, .nil,hacc⟩
  len:=by rw [jl_];exact hlen.symm}
 have fr0:∀b∈fp,upd H2 s2.heap.objs.size (.lst []) b=none:=fun b hb=>by
  rw [ak_ (AL (fpl b hb))];exact(f2 b hb).1
 have st3:tn 0 h₁:=T.keep 0 _ _ st2 fun b _ o e=>kp b o e;have stat:∀{H':Hp},(∀b∈fp,H' b=none)->∀b∈fp,ip_ (X.comp scope P2.objs.size N s2 H2 fp fun _ _=>False) [] H' b:=fun hn b hb=>
  ⟨hn b hb,(hX.exf b hb).1,hX.exfs b hb, .inl hb,fun x c a=>(hX.exf b hb).2 x c a,fun p hp=>absurd (show p∈([]:List (Addr×Obj)) from hp) (by simp)⟩
 have loop:∀s₃:Shared,s₃={s2 with heap:=h₁,toks:=s2.toks+([]:List (Str×Value)).length}->
   codeAny (model X.prog X.w) X.A (.compLoop (.ListComp elt [⟨tg,iter,ifs,0⟩] scope pos) 0 (.ref it) (.ref s2.heap.objs.size) (compEnvC scope (jk_ X.env scope.names []) P2.objs.size X.env))
    (compPost (model X.prog X.w) X.A X.xe use RQ (.ref s2.heap.objs.size) P2.objs.size) s₃:=by
  rintro s₃ rfl;refine nd_ (fun n s'=>∃i H',Inv (X.comp scope P2.objs.size N s2 H2 fp fun _ _=>False) [] (k8_ own js σ) H' s'/\tn i s'.heap/\(∀b∈fp,H' b=none)/\Wq i n H') ?_ m0 ⟨0,_,I3 _,st3,fr0,w0⟩;rintro n s3 ⟨i,H3,J3,t3,fr3,w3⟩;rcases turn i n H3 w3 with⟨stop,qd⟩|⟨go,step⟩
  .refine pM_ (T.done (X.comp scope P2.objs.size N s2 H2 fp fun _ _=>False) rfl rfl rfl hc i [] s3 _ H3 _ J3 (stat fr3) t3 stop) fun r s4 ⟨hr,J4⟩=> ?_;subst hr;obtain⟨m,hn,_⟩:=J4.loc;have B:Un (frs X.stack) fp H2 H3 s2.heap s4.heap:=J4.base;have I5:Inv X pins σ H3 s4:=I2.call' J4.os B J4.hok J4.bare fun b hb=>by
    obtain⟨a1,a2,a3,a4,a5,a6⟩:=f2 b hb;exact⟨a4,a2,a5,a6⟩
   have hp:=I2.fpOk (H':=H3) (b:=P2.objs.size) (An hC1) J4.free;obtain⟨a1,a2,a3,a4,a5,a6⟩:=hp;exact fin s2.heap.objs.size P2.objs.size H3 s4 m I5 hn a1 a2 a3 (B6 I2.sz (An hC1)) a5 a6 qd
  .refine pM_ (T.item (X.comp scope P2.objs.size N s2 H2 fp fun _ _=>False) rfl rfl rfl hc i [] s3 _ H3 _ J3 (stat fr3) t3 go) fun r s4 ⟨u,hr,h4⟩=> ?_;subst hr;refine pM_ h4 fun _ s5 ⟨x,H5,J5,r5,y5,t5,fr5⟩=> ?_;have J5':=J5.pinned (stat fr5) (T.obj _ _ t5);refine pM_ (hg _ _ _ _ _ s5 _ H5 x u _ J5' r5 (ho _ _ _ _ (step x H5 y5))) fun _ s6 ⟨σ6,H6,J6,q6,hl6,ho6⟩=> ?_;have again:∀{s7:Shared}{H7:Hp},Inv (X.comp scope P2.objs.size N s2 H2 fp fun _ _=>False) ([]++hj_ fp s5.heap) σ6 H7 s7->(∃m',m'<n/\Wq (i+1) m' H7)->
     ∃m,m<n/\∃i H',Inv (X.comp scope P2.objs.size N s2 H2 fp fun _ _=>False) [] (k8_ own js σ) H' s7/\tn i s7.heap/\(∀b∈fp,H' b=none)/\Wq i m H':=fun{s7 H7} J7 z=>by
    obtain⟨m',hm,w7⟩:=z;refine⟨m',hm,i+1,H7,J7.unpinned.weak (by rw [hl6]) (fun k v z=> ?_),T.keep _ _ _ t5 fun b hb o e=>(J7.pin (b,o) (BB _ (BB _ (cR_ hb e)))).1,fun b hb=> ?_,w7⟩
    .rw [ho6 k (h4_ z).1];exact z
    .obtain⟨o,e,d⟩:=T.obj _ _ t5 b hb;exact(J7.pin (b,o) (BB _ (BB _ (cR_ hb e)))).2.1
   refine pM_ (ht _ _ _ _ _ s6 σ6 H6 _ J6 q6) fun ok s7 ⟨H7,J7,q7⟩=> ?_;cases ok with
   |false=>exact again J7 q7
   |true=>
    refine pM_ (he _ _ _ _ _ s7 σ6 H7 _ J7 q7) fun y s8 ⟨yv,H8,J8,r8,q8⟩=> ?_;exact pM_ (a1_ _ s8 σ6 H8 (.ref s2.heap.objs.size) [yv] (.ref s2.heap.objs.size) [y] _ J8 rfl (.cons r8 .nil) q8) fun _ s9 ⟨_,H9,J9,_,q9⟩=>again J9 q9
 exact codeAny_compStart_list (loop _ rfl) (T.self X.A 0 _ _ _ st3 (loop _ rfl))
theorem qg_ {X:Cx}{elt tg iter:Expr}{ifs:List Expr}{scope:Scope}{pos:Pos}{N:List Str}{own:Nat}{js:List Nat}{wi:TI}{g:TG}{ti:TT}{te:TE} (hc:X.calm=true)
  (hcell:∀y∈scope.names,y.2≠ .cell) (hkind:scope.kind= .function) (hnames:∀y∈scope.names,y.2= .local->scope.names.lookup y.1=some .local)
  (hfree:∀y∈scope.names,y.2= .free->X.env.kindOf y.1=some .cell\/X.env.kindOf y.1=some .free) (hlen:N.length=own+js.length)
  (hcap:∀(i j:Nat) (x:Str),js[i]? =some j->N[own+i]? =some x->X.N[j]? =some x/\(x,NameKind.free)∈scope.names/\(X.env.kindOf x=some .cell\/X.env.kindOf x=some .free)/\((relabel scope X.env).names.lookup x=some .cell\/(relabel scope X.env).names.lookup x=some .free))
  (hi:PI X tg iter wi) (hg:∀C s₀ H₀ ex,PG (X.comp scope C N s₀ H₀ ex fun _ _=>False) tg g) (ho:s5_ own g) (ht:∀C s₀ H₀ ex,s4_ (X.comp scope C N s₀ H₀ ex fun _ _=>False) ifs ti) (he:∀C s₀ H₀ ex,PE (X.comp scope C N s₀ H₀ ex fun _ _=>False) elt te)
  (hs:∀x,foldedSetIterable iter X.env x=pure x:=by intro _;rfl):PE X (.ListComp elt [⟨tg,iter,ifs,0⟩] scope pos) (pR_ own js wi g ti te):=by
 intro pins s σ H Q I h;rw [eval_ListComp];refine ne_ hc hcell hkind hnames hfree hlen hcap hi hg ho ht he I h (use:=none) (fun acc C H3 s4 m I5 hn c1 c2 c3 c4 c5 c6 q=> ?_) hs;refine⟨m,hn,fun h' sb=>⟨.ref acc,H3, ?_,rfl,q⟩⟩;exact I5.turned (t':=s4.toks) (it:=C) (fun b o hb e=>(sb.2 b hb).trans e) c1 c2 (.inr c4) c5 c6
end L2
namespace L2
open PySem PySem.Spec PyProof.Rows
def ng_ (XN:List Str) (sc scope:Scope) (own:Nat) (js:List Nat) (N:List Str):Bool:=
 (scope.names.all fun y=>decide (y.2≠ .cell)&&(decide (y.2≠ .local)||decide (scope.names.lookup y.1=some .local))&&(decide (y.2≠ .free)||decide (sc.names.lookup y.1=some .cell)||decide (sc.names.lookup y.1=some .free)))&&
  decide (scope.kind= .function)&&decide (N.length=own+js.length)&&
  (List.range js.length).all fun i=>match js[i]?,N[own+i]? with
   |some j,some x=>decide (XN[j]? =some x)&&decide (scope.names.lookup x=some .free)&&(decide (sc.names.lookup x=some .cell)||decide (sc.names.lookup x=some .free))
   |_,_=>false
theorem bP_ {env:Env}:∀{names:List (Str×NameKind)}{x:Str},names.lookup x=some .free->
  (names.map fun(n,k)=>if(k==NameKind.free&&env.scope.kind== .function&&env.kindOf n==some .cell) then(n,NameKind.cell) else(n,k)).lookup x=some .cell\/
  (names.map fun(n,k)=>if(k==NameKind.free&&env.scope.kind== .function&&env.kindOf n==some .cell) then(n,NameKind.cell) else(n,k)).lookup x=some .free
 |[],_,h=>by simp at h
 |(n,k)::r,x,h=>by
  have ih:= @bP_ env r x;rw [AK,CA];rw [CA] at h;by_cases hc:(k==NameKind.free&&env.scope.kind== .function&&env.kindOf n==some .cell)=true
  .rw [A7 hc];dsimp only;cases hx:x==n with
   |true=>exact .inl rfl
   |false=>
    rw [hx] at h;exact ih h
  .rw [A5 hc];dsimp only;cases hx:x==n with
   |true=>
    rw [hx] at h;exact .inr h
   |false=>
    rw [hx] at h;exact ih h
structure CompOk (XN:List Str) (sc scope:Scope) (own:Nat) (js:List Nat) (N:List Str):Prop where
 cell:∀y∈scope.names,y.2≠ .cell
 names:∀y∈scope.names,y.2= .local->scope.names.lookup y.1=some .local
 free:∀y∈scope.names,y.2= .free->sc.names.lookup y.1=some .cell\/sc.names.lookup y.1=some .free
 kind:scope.kind= .function
 len:N.length=own+js.length
 cap:∀(i j:Nat) (x:Str),js[i]? =some j->N[own+i]? =some x->XN[j]? =some x/\scope.names.lookup x=some .free/\(sc.names.lookup x=some .cell\/sc.names.lookup x=some .free)
theorem nf_ {XN:List Str}{sc scope:Scope}{own:Nat}{js:List Nat}{N:List Str} (h:ng_ XN sc scope own js N=true):CompOk XN sc scope own js N:=by
 unfold ng_ at h;rw [AN,AN,AN] at h;obtain⟨⟨⟨h1,h2⟩,h3⟩,h4⟩:=h;rw [Al] at h1 h4;refine⟨fun y hy=> ?_,fun y hy e=> ?_,fun y hy e=> ?_,B2 h2,B2 h3,fun i j x a b=> ?_⟩
 .have:=h1 y hy;rw [AN,AN] at this;exact B2 this.1.1
 .have:=h1 y hy;rw [AN,AN,CZ] at this;rcases this.1.2 with z|z
  .exact absurd e (B2 z)
  .exact B2 z
 .have:=h1 y hy;rw [AN,AN,CZ,CZ,CZ] at this;rcases this.2 with(z|z)|z
  .exact absurd e (B2 z)
  .exact .inl (B2 z)
  .exact .inr (B2 z)
 .have hi:i<js.length:=(AD.mp a).1;have:=h4 i (AV.mpr hi);rw [a,b] at this;dsimp only at this;rw [AN,AN,CZ] at this;exact⟨B2 this.1.1,B2 this.1.2,this.2.imp B2 B2⟩
section
variable {X:Cx}{XN:List Str}{sc scope:Scope}{elt tg iter:Expr}{ifs:List Expr}{pos:Pos}{N:List Str}{own:Nat}{js:List Nat}{wi:TI}{g:TG}{ti:TT}{te:TE}
theorem bV_ (hc:X.calm=true) (ok:ng_ XN sc scope own js N=true) (hsc:X.env.scope=sc) (hXN:X.N=XN) (hi:PI X tg iter wi) (hg:∀C s₀ H₀ ex,PG (X.comp scope C N s₀ H₀ ex fun _ _=>False) tg g) (ho:s5_ own g)
  (ht:∀C s₀ H₀ ex,s4_ (X.comp scope C N s₀ H₀ ex fun _ _=>False) ifs ti) (he:∀C s₀ H₀ ex,PE (X.comp scope C N s₀ H₀ ex fun _ _=>False) elt te)
  (hs:∀x,foldedSetIterable iter X.env x=pure x:=by intro _;rfl):PE X (.ListComp elt [⟨tg,iter,ifs,0⟩] scope pos) (pR_ own js wi g ti te):=by
 obtain⟨h1,h2,h3,h4,h5,h6⟩:=nf_ ok;subst hsc hXN;refine qg_ hc h1 h4 h2 h3 h5 (fun i j x a b=> ?_) hi hg ho ht he hs;obtain⟨z1,z2,z3⟩:=h6 i j x a b;exact⟨z1,C8 z2,z3,bP_ z2⟩
end
theorem k4_ {lo:Int}{n:Nat}{own:Nat}{js:List Nat}{g:TG}{ti:TT}{te:TE}{σ:St}{H1:Hp}{acc:Addr}{Q:VK} (Pv:Nat->Hp->Prop) (h0:Pv 0 (upd H1 acc (.lst [])))
  (hs:∀i H2,i<n->Pv i H2->g (.int (lo+i)) (k8_ own js σ) H2 fun σ4 H4=>ti σ4 H4 fun b H5=>if b=true then te σ4 H5 fun y H6=>de_ (.ref acc) [y] H6 fun _ H7=>Pv (i+1) H7 else Pv (i+1) H5) (hd:∀H2,Pv n H2->Q (.ref acc) H2)
  (mono:∀σ H (R R':St->Hp->Prop) x,(∀σ' H',R σ' H'->R' σ' H')->g x σ H R->g x σ H R') (monoT:∀σ H (R R':Bool->Hp->Prop),(∀b H',R b H'->R' b H')->ti σ H R->ti σ H R') (monoE:∀σ H (R R':VK),(∀v H',R v H'->R' v H')->te σ H R->te σ H R'):
  lh_ (Itr lo n) own js g ti te σ H1 acc Q:=by
 refine⟨fun i m H2=>m=n-i/\i<=n/\Pv i H2,⟨n,by simp,AM _,h0⟩, ?_⟩;rintro i m H2 ⟨rfl,hi,p⟩;by_cases hlt:i<n
 .refine .inr ⟨hlt,fun x H3 y=> ?_⟩;obtain⟨e1,e2⟩:=y;subst e1 e2;refine mono _ _ _ _ _ (fun σ4 H4 q=>monoT _ _ _ _ (fun b H5 q=> ?_) q) (hs i _ hlt p);cases b with
  |true=>
   refine monoE _ _ _ _ (fun v H6 q=> ?_) q;obtain⟨l,xs,y,a1,a2,a3,a4,a5⟩:=q;exact⟨l,xs,y,a1,a2,a3,a4,n-(i+1),by lia,rfl,hlt,a5⟩
  |false=>exact⟨n-(i+1),by lia,rfl,hlt,q⟩
 .have e:i=n:=by lia
  subst e;exact .inl ⟨AA _,hd H2 p⟩
theorem dJ_ {K:W.Frag}{a:Addr}{xs:List V}{own:Nat}{js:List Nat}{g:TG}{ti:TT}{te:TE}{σ:St}{H1:Hp}{acc:Addr}{Q:VK} (Pv:Nat->Hp->Prop) (h0:Pv 0 (upd H1 acc (.lst []))) (hl:∀i H2,i<=xs.length->Pv i H2->SqL K H2 a xs)
  (hs:∀i x H2,xs[i]? =some x->Pv i H2->g x (k8_ own js σ) H2 fun σ4 H4=>ti σ4 H4 fun b H5=>if b=true then te σ4 H5 fun y H6=>de_ (.ref acc) [y] H6 fun _ H7=>Pv (i+1) H7 else Pv (i+1) H5) (hd:∀H2,Pv xs.length H2->Q (.ref acc) H2)
  (mono:∀σ H (R R':St->Hp->Prop) x,(∀σ' H',R σ' H'->R' σ' H')->g x σ H R->g x σ H R') (monoT:∀σ H (R R':Bool->Hp->Prop),(∀b H',R b H'->R' b H')->ti σ H R->ti σ H R') (monoE:∀σ H (R R':VK),(∀v H',R v H'->R' v H')->te σ H R->te σ H R'):
  lh_ (Itl K a) own js g ti te σ H1 acc Q:=by
 refine⟨fun i m H2=>m=xs.length-i/\i<=xs.length/\Pv i H2,⟨xs.length,by simp,AM _,h0⟩, ?_⟩;rintro i m H2 ⟨rfl,hi,p⟩;have q:=hl i H2 hi p;by_cases hlt:i<xs.length
 .refine .inr ⟨⟨xs,xs[i],q,by simp [hlt]⟩,fun x H3 y=> ?_⟩;obtain⟨e1,y⟩:=y;subst e1;refine mono _ _ _ _ _ (fun σ4 H4 q=>monoT _ _ _ _ (fun b H5 q=> ?_) q) (hs i x _ (y xs q) p);cases b with
  |true=>
   refine monoE _ _ _ _ (fun v H6 q=> ?_) q;obtain⟨l,xs,y,a1,a2,a3,a4,a5⟩:=q;exact⟨l,xs,y,a1,a2,a3,a4,_,by lia,rfl,hlt,a5⟩
  |false=>exact⟨_,by lia,rfl,hlt,q⟩
 .have e:i=xs.length:=by lia
  subst e;exact .inl ⟨⟨xs,q,AA _⟩,hd H2 p⟩
theorem cJ_ {i:Nat}:∀(σ:St) (H:Hp) (R R':St->Hp->Prop) (x:V),(∀σ' H',R σ' H'->R' σ' H')->eo_ i x σ H R->eo_ i x σ H R':=fun _ _ _ _ _ k h=>k _ _ h
theorem s8_ {A B:St->Hp->Prop}{i:Nat}{x:V}{σ:St}{H:Hp} (h:A (σ.set i (some x)) H):eo_ i x σ H fun σ4 H4=>s9_ σ4 H4 fun b H5=>if b=true then A σ4 H5 else B σ4 H5:=by
 show if true=true then A (σ.set i (some x)) H else B (σ.set i (some x)) H
 rw [A7 rfl];exact h
theorem mJ_ {n i:Nat} (h:i<n):ixN n (i:Int)=some i:=by
 unfold ixN;rw [A7 (by lia),A7 (by lia),Ap]
theorem cg_:∀(σ:St) (H:Hp) (R R':Bool->Hp->Prop),(∀b H',R b H'->R' b H')->s9_ σ H R->s9_ σ H R':=fun _ _ _ _ k h=>k _ _ h
end L2
namespace L2
open PySem PySem.Spec PyProof.Rows
section
variable {X:Cx}{K:W.Frag}
end
end L2
namespace L2
open PySem PySem.Spec PyProof.Rows
inductive EqR (K:W.Frag) (H:Hp):Nat->V->V->Bool->Prop where
 |int (d:Nat) (i j:Int):EqR K H d (.int i) (.int j) (decide (i=j))
 |lists {d:Nat}{a b:Addr}{xs ys:List V} (es:Nat->Bool) (h1:SqL K H a xs) (h2:SqL K H b ys) (hl:xs.length=ys.length) (he:∀(j:Nat) x y,xs[j]? =some x->ys[j]? =some y->EqR K H d x y (es j)):EqR K H (d+1) (.ref a) (.ref b) ((List.range xs.length).all es)
 |lens {d:Nat}{a b:Addr}{xs ys:List V} (h1:SqL K H a xs) (h2:SqL K H b ys) (hl:xs.length≠ys.length):EqR K H (d+1) (.ref a) (.ref b) false
 |tuples {d:Nat}{a b:Addr}{xs ys:List V} (es:Nat->Bool) (h1:SqT K H a xs) (h2:SqT K H b ys) (he:∀(j:Nat) x y,xs[j]? =some x->ys[j]? =some y->EqR K H d x y (es j)):EqR K H (d+1) (.ref a) (.ref b) ((List.range (min xs.length ys.length)).all es&&xs.length==ys.length)
section
variable {X:Cx}{pins:List (Addr×Obj)}{σ:St}{H:Hp}{s:Shared}
theorem EqR.same (I:Inv X pins σ H s) {d:Nat}{x y:V}{e:Bool} (h:EqR X.K H d x y e):x=y->e=true:=by
 induction h with
 |int d i j=>intro q;cases q;simp
 |lists es h1 h2 hl he ih=>
  intro q;cases q;have z:=I.list_inj h1 h2;subst z;rw [Al];intro j hj;rw [AV] at hj;have hx:=A3 hj;exact ih j _ _ hx hx rfl
 |lens h1 h2 hl=>
  intro q;cases q;exact absurd (Bb List.length (I.list_inj h1 h2)) hl
 | @tuples d a b xs ys es h1 h2 he ih=>
  intro q;cases q;have z:=I.tuple_inj h1 h2;subst z;rw [AN];refine⟨?_,by simp⟩;rw [Al];intro j hj;rw [AV,Nat.min_self] at hj;have hx:=A3 hj;exact ih j _ _ hx hx rfl
theorem aI_ (A:Around):A.in1.units=A.units+1:=rfl
theorem EqR.at_ (I:Inv X pins σ H s) {d:Nat}{x y:V}{e:Bool} (h:EqR X.K H d x y e):∀{A:Around}{u v:Value},A.units+d<cLine->aZ_ x u->aZ_ y v->SeqAt.RcAt A s u v e/\SeqAt.RcNeAt A s u v (!e)/\SeqAt.EqAt A s u v e:=by
 induction h with
 |int d i j=>
  intro A u v hu ru rv;obtain⟨t,rfl⟩:=ru;obtain⟨t',rfl⟩:=rv;have e:decide (i=j)=(i==j):=by rw [Bool.beq_eq_decide_eq]
  rw [e];exact⟨SeqAt.RcAt.int_int i t j t',SeqAt.RcNeAt.int_int i t j t',SeqAt.EqAt.int_int i t j t'⟩
 | @lists d a b xs ys es h1 h2 hl he ih=>
  intro A u v hu ru rv;obtain rfl:u=Value.ref a:=ru;obtain rfl:v=Value.ref b:=rv;obtain⟨is,r1,p1,z1⟩:=I.list h1;obtain⟨js,r2,p2,z2⟩:=I.list h2;have l1:=r1.length;have l2:=r2.length;have ln:xs.length=is.toArray.size:=by simpa using l1
  have sz:is.toArray.size=js.toArray.size:=by simp only [AE];lia
  have it:∀j (q1:j<is.toArray.size) (q2:j<js.toArray.size),SeqAt.EqAt A.in1 s is.toArray[j] js.toArray[j] (es j):=fun j q1 q2=>by
   simp only [AE] at q1 q2;have hx:xs[j]? =some xs[j]:=A3 (by lia);have hy:ys[j]? =some ys[j]:=A3 (by lia);obtain⟨u1,e1,ru1⟩:=r1.get hx;obtain⟨u2,e2,ru2⟩:=r2.get hy;have g1:is.toArray[j]=u1:=by
    rw [A3 q1] at e1;simpa using Option.some.inj e1
   have g2:js.toArray[j]=u2:=by
    rw [A3 q2] at e2;simpa using Option.some.inj e2
   rw [g1,g2];exact(ih j _ _ hx hy (by rw [aI_];lia) ru1 ru2).2.2
  rw [ln];have R:=SeqAt.RcAt.lists (A:=A) p1.isList p2.isList sz (by lia) it;refine⟨R,SeqAt.RcNeAt.lists p1.isList p2.isList sz (by lia) it, ?_⟩;by_cases q:a=b
  .subst q;have:=(EqR.lists es h1 h2 hl he).same I rfl;rw [ln] at this;rw [this];exact SeqAt.EqAt.same _
  .exact SeqAt.EqAt.of_refs q R
 | @lens d a b xs ys h1 h2 hl=>
  intro A u v hu ru rv;obtain rfl:u=Value.ref a:=ru;obtain rfl:v=Value.ref b:=rv;obtain⟨is,r1,p1,z1⟩:=I.list h1;obtain⟨js,r2,p2,z2⟩:=I.list h2;have l1:=r1.length;have l2:=r2.length;have sz:(is.toArray.size !=js.toArray.size)=true:=by
   simp only [AE,bne_iff_ne,ne_eq];lia
  have R:=SeqAt.RcAt.lists_lengths (A:=A) p1.isList p2.isList sz (by lia);refine⟨R,SeqAt.RcNeAt.lists_lengths p1.isList p2.isList sz (by lia), ?_⟩;by_cases q:a=b
  .subst q;exact absurd (Bb List.length (I.list_inj h1 h2)) hl
  .exact SeqAt.EqAt.of_refs q R
 | @tuples d a b xs ys es h1 h2 he ih=>
  intro A u v hu ru rv;obtain rfl:u=Value.ref a:=ru;obtain rfl:v=Value.ref b:=rv;obtain⟨is,r1,p1,z1⟩:=I.tuple h1;obtain⟨js,r2,p2,z2⟩:=I.tuple h2;have l1:=r1.length;have l2:=r2.length;have ln:xs.length=is.toArray.size:=by simpa using l1
  have ln2:ys.length=js.toArray.size:=by simpa using l2
  have it:∀j (q1:j<is.toArray.size) (q2:j<js.toArray.size),SeqAt.EqAt A.in1 s is.toArray[j] js.toArray[j] (es j):=fun j q1 q2=>by
   simp only [AE] at q1 q2;have hx:xs[j]? =some xs[j]:=A3 (by lia);have hy:ys[j]? =some ys[j]:=A3 (by lia);obtain⟨u1,e1,ru1⟩:=r1.get hx;obtain⟨u2,e2,ru2⟩:=r2.get hy;have g1:is.toArray[j]=u1:=by
    rw [A3 q1] at e1;simpa using Option.some.inj e1
   have g2:js.toArray[j]=u2:=by
    rw [A3 q2] at e2;simpa using Option.some.inj e2
   rw [g1,g2];exact(ih j _ _ hx hy (by rw [aI_];lia) ru1 ru2).2.2
  rw [ln,ln2];have R:=SeqAt.RcAt.tuples (A:=A) (show s.heap.IsTuple a is.toArray from p1) (show s.heap.IsTuple b js.toArray from p2) (by lia) it;refine⟨R,SeqAt.RcNeAt.tuples (show s.heap.IsTuple a is.toArray from p1) (show s.heap.IsTuple b js.toArray from p2) (by lia) it, ?_⟩;by_cases q:a=b
  .subst q;have:=(EqR.tuples es h1 h2 he).same I rfl;rw [ln,ln2] at this;rw [this];exact SeqAt.EqAt.same _
  .exact SeqAt.EqAt.of_refs q R
def u8_ (K:W.Frag) (neg:Bool):R2:=fun x y H Q=>∃d e,EqR K H d x y e/\d<=8/\Q (.bl (if neg then !e else e)) H
theorem r9_ {k:Nat} (hr:Room k X.A):OpR X (compareOp .NotEq) (u8_ X.K true):=by
 intro pins s σ H x y v u Q I rx ry h;obtain⟨d,e,r,hd,q⟩:=h;have hu:=hr.un;exact(r.at_ I (A:=X.A) (by lia) rx ry).2.1 X.prog X.w X.xe _ ⟨.bl (!e),H,I,rfl,q⟩
theorem dK_ (hc:X.calm=true):bQ_ X (.builtin "sum") (fun xs H Q=>∃(p:Addr) (ns:List Int),xs=[.ref p]/\SqL X.K H p (ns.map V.int)/\Q (.int ns.sum) H):=by
 intro pins s σ H xs us Q I r h;obtain⟨p,ns,rfl,hq,q⟩:=h;obtain⟨u,rfl,rx⟩:=ek_ r;cases rx;obtain⟨its,r',pl,hz⟩:=I.list hq;have hi:IntsAre its ns:=ea_ r';obtain⟨ys,e⟩:=hi.allInts.items;have hl:=pl.isList;rw [e] at hl;refine sum_intListG (I.ok.hd hc) hl fun h' tk t' hk=>⟨.int ns.sum,H,I.kept hk,⟨t', ?_⟩,q⟩;have n1:=hi.numsOf;rw [show its=its.toArray.toList from rfl,e,nums_intItems] at n1;rw [preSum_eq,List.take_of_length_le (by simp),n1]
def CDB (_ j:Int):Prop:=j≠0/\j.natAbs<2^512
theorem od_:OpR X (binaryOp .FloorDiv) (rI CDB fun i j=> .int (i.fdiv j)):=opI fun i j _ _ _ _ _ hc q=>floordiv_int hc.1 q (.inl (PyProof.noPylong_of_log2 (by
 have h0:j.natAbs≠0:=by have:=hc.1;lia
 have:=(Nat.log2_lt h0).mpr hc.2;lia)))
end
end L2
namespace L2
open PySem PySem.Spec PyProof.Rows
section
variable {prog:Program}{w:World}{A:Around}{E:Value->Shared->Prop}{s:Shared}
end
section
variable {X:Cx}{e:Expr}{te:TE}{p1 p2 p3 pos:Pos}
end
end L2
namespace L2
open PySem PySem.Spec PyProof.Rows
def Ite (K:W.Frag) (a:Addr):It:=
 ⟨fun i H=>∃xs x,SqL K H a xs/\xs[i]? =some x,fun i H v H'=>∃x p,(∀xs,SqL K H a xs->xs[i]? =some x)/\v= .ref p/\H p=none/\H'=upd H p (.tup [.int i,x]),fun i H=>∃xs,SqL K H a xs/\xs.length<=i⟩
theorem ly_ {P:Program}{w:World}{K:W.Frag}{elts:List Expr}{k:Nat}{pos:Pos} (a e it:Addr) (hne:e≠it):
  Turn P w K (.Tuple elts k pos) (Ite K a) [e,it] e (fun i h=>(∃old,IsEnum h e it (i:Nat) old)/\h.IsListIter it a i) where
 mem:=by simp
 obj:=fun i h st b hb=>by
  obtain⟨⟨old,h1⟩,o,h2,h3,h4⟩:=st;rcases AJ.mp hb with z|z
  .subst z;exact⟨_,h1,fun v y=>by cases y⟩
  .rw [AS.mp z];exact⟨o,h2,fun v y=>by rw [h4] at y;cases y⟩
 keep:=fun i h h' st kk=>⟨st.1.imp fun old z=>kk e (by simp) _ z,st.2.at fun o z=>kk it (by simp) o z⟩
 item:=by
  intro X hP hw hK hc i pins s σ H E I hf st hg;subst hP hw hK;obtain⟨xs,x,hq,hx⟩:=hg;obtain⟨its,rv,p,hz⟩:=I.list hq;obtain⟨u,hu,ru⟩:=rv.get hx;obtain⟨⟨old,he⟩,hit⟩:=st;have nf:H s.heap.objs.size=none:=I.hok.fresh (AA _);have ltE:e<s.heap.objs.size:=AI he;refine wpAny_pyNext_enum_item he hit p.isList (x:=u) (by simpa using hu) hne fun h' ho hit' hT hsz hk=>⟨.ref s.heap.objs.size,rfl, ?_⟩;refine wpAny_letOwnedTupleGo_enum ho fun h2 he2 sb=> ?_;have k2:∀b o,b≠e->b≠it->s.heap.get? b=some o->h2.get? b=some o:=fun b o n1 n2 z=>(sb.2 b n1).trans (hk b o n1 n2 z);have hT2:h2.get? s.heap.objs.size=some {cls:= .type "tuple",data:= .seq #[.int i s.toks,u]}:=(sb.2 _ (BW ltE)).trans hT;have hch:∀b,b∉[e,it]->b≠e/\b≠it:=fun b z=>⟨fun y=>z (by simp [y]),fun y=>z (by simp [y])⟩;refine⟨.ref s.heap.objs.size,upd H s.heap.objs.size (.tup [.int i,x]), ?_,rfl,⟨x,_,fun ys hy=>by rw [I.list_inj hy hq];exact hx,rfl,nf,rfl⟩,⟨⟨u,by simpa using he2⟩,hit'.at fun o z=>(sb.2 it hne.symm).trans z⟩,fun b hb=> ?_⟩
  .refine I.step (s:=s) (h':=h2) (g':=s.gens) (d':=s.drawn) (t':=s.toks+1) (ch:=[e,it]) (fun b hb=> ?_) (fun b o _ _ c z _=>k2 b o (hch b c).1 (hch b c).2 z) (fun b o _ _ c z _=>⟨o.slots,k2 b o (hch b c).1 (hch b c).2 z⟩)
    (fun b o c z n=> ?_) (fun b o c z=>⟨o,k2 b o (hch b c).1 (hch b c).2 z⟩) (fun b ys z=> ?_) (fun b o v z=> ?_) (fun b ps z=>⟨#[], ?_⟩) (fun m hm=> ?_) (fun b v z=> ?_) I.bare
   .obtain⟨a1,a2,a3,a4,a5,a6⟩:=hf b hb;exact⟨a4,a2,a5,a6⟩
   .rw [ak_ (AL (AI z))];exact n
   .rw [ak_ (ay_ z nf)];exact z
   .rw [ak_ (ay_ z nf)];exact z
   .rw [ak_ (ay_ z nf),z];simp
   .obtain⟨o,es,ep,ho',r⟩:=hm;exact⟨o,es,ep,k2 _ o (fun y=>(hf e (by simp)).2.1 y.symm) (fun y=>(hf it (by simp)).2.1 y.symm) ho',r⟩
   .by_cases hb:b=s.heap.objs.size
    .subst hb;rw [ag_] at z;cases z;exact⟨by show 2<=sizeLine;decide,[.int i s.toks,u], .cons ⟨_,rfl⟩ (.cons ru .nil),⟨_,hT2,rfl,_,rfl⟩⟩
    .rw [ak_ hb] at z;refine(I.hok b v z).stay (fun c o hc y=>k2 c o ?_ ?_ y) (fun c y=> ?_) fun c ys y=> ?_
     .rcases hc with q|q
      .rw [q];exact fun y=>by rw [y,(hf e (by simp)).1] at z;cases z
      .exact fun y=>by rw [y,(hf e (by simp)).1] at q;cases q
     .rcases hc with q|q
      .rw [q];exact fun y=>by rw [y,(hf it (by simp)).1] at z;cases z
      .exact fun y=>by rw [y,(hf it (by simp)).1] at q;cases q
     .rw [ak_ (ay_ y nf)];exact y
     .rw [ak_ (ay_ y nf)];exact y
  .obtain⟨o,z,_⟩:=(show∃o,s.heap.get? b=some o/\True from by
    rcases AJ.mp hb with q|q
    .rw [q];exact⟨_,he,trivial⟩
    .rw [AS.mp q];obtain⟨o,y,_⟩:=hit;exact⟨o,y,trivial⟩)
   rw [ak_ (AL (AI z))];exact(hf b hb).1
 done:=by
  intro X hP hw hK hc i pins s σ H E I hf st hg;subst hP hw hK;obtain⟨xs,hq,hx⟩:=hg;obtain⟨its,rv,p,hz⟩:=I.list hq;obtain⟨⟨old,he⟩,hit⟩:=st;have hl:=rv.length;obtain⟨f0,f1,f2,f3,f4,f5⟩:=hf it (by simp);exact wpAny_pyNext_enum_end (I.ok.hd hc) he hit p.isList (by simp;lia) fun h' eb=>⟨rfl,I.turned (t':=s.toks) (fun b o hb z=>eb b o hb z) f0 f1 f3 f4 f5⟩
 self:=fun _ _ _ _ _ st h=>let ⟨⟨_,z⟩,_⟩:=st;wpAny_pyIter_enum z h
section
variable {X:Cx}{elts:List Expr}{k:Nat}{tpos p pos:Pos}{e:Expr}{te:TE}
def un_ (K:W.Frag) (tl:TE):TI:=fun σ H R=>tl σ H fun x H1=>∃a,x= .ref a/\(∃xs,SqL K H1 a xs)/\R (Ite K a) H1
theorem iP_ (hg:Gl X "enumerate") (hm:X.mg "enumerate"=none) (hl:PE X e te) (he:starEach [e] X.env=[(false,eval e X.env)]:=by rfl):PI X (.Tuple elts k tpos) (.Call (.Name "enumerate" p) [e] [] pos) (un_ X.K te):=by
 intro pins s σ H R I h;refine Ba (cK_ I hg hm boot_enumerate ?_);refine BH (thn ((aa_ hl ab_ he) _ pins s σ H (fun vs H1=>match vs with|[x]=>(∃a,x= .ref a/\(∃xs,SqL X.K H1 a xs)/\R (Ite X.K a) H1)|_=>False) I h) fun us s1 ⟨vs,H1,I1,r1,q1⟩=> ?_) he (by rfl)
 match vs,q1,r1 with
 |[x],q1,r1=>
 obtain⟨a,rfl,⟨xs,hq⟩,q⟩:=q1;obtain⟨u,rfl,ru⟩:=ek_ r1;obtain rfl:u=Value.ref a:=ru;obtain⟨its,rv,pl,hz⟩:=I1.list hq;refine call_enumerate_list pl.isList fun h' hen hit hsz hk=> ?_;refine wpAny_pyIter_enum hen ?_;refine⟨_,[_,_],_,_,H1,rfl,I1.kept (t':=s1.toks) hk,ly_ a _ _ (BW (BP _)),⟨⟨_,by simpa using hen⟩,hit⟩,fun b hb=> ?_,q⟩;have fr:∀b,s1.heap.objs.size<=b->ip_ X pins H1 b:=fun b z=>I1.fpOk z (I1.hok.fresh z);rcases AJ.mp hb with z|z
 .rw [z];exact fr _ (C3 _)
 .rw [AS.mp z];exact fr _ (AA _)
end
theorem kf_ {K:W.Frag}{a:Addr}{xs:List V}{g:TG}{tb:TS}{D:Ends}{σ:St}{H:Hp} (Pv:Nat->St->Hp->Prop) (h0:Pv 0 σ H) (hl:∀i σ H,i<=xs.length->Pv i σ H->SqL K H a xs)
  (hs:∀i x σ H p,xs[i]? =some x->Pv i σ H->H p=none->g (.ref p) σ (upd H p (.tup [.int i,x])) fun σ2 H2=>tb {D with nx:=Pv (i+1),ct:=Pv (i+1),bk:=D.nx} σ2 H2) (hd:∀σ H,Pv xs.length σ H->D.nx σ H):
  ∃Wq:Nat->Nat->St->Hp->Prop,(∃m,Wq 0 m σ H)/\∀i m σ H,Wq i m σ H->
   ((Ite K a).stop i H/\D.nx σ H)\/((Ite K a).go i H/\∃N:St->Hp->Prop,(∀σ' H',N σ' H'->∃m',m'<m/\Wq (i+1) m' σ' H')/\∀x H',(Ite K a).yld i H x H'->g x σ H' fun σ2 H2=>tb {D with nx:=N,ct:=N,bk:=D.nx} σ2 H2):=by
 refine⟨fun i m σ H=>m=xs.length-i/\i<=xs.length/\Pv i σ H,⟨xs.length,by simp,AM _,h0⟩, ?_⟩;rintro i m σ H ⟨rfl,hi,p⟩;have q:=hl i σ H hi p;by_cases hlt:i<xs.length
 .refine .inr ⟨⟨xs,xs[i],q,by simp [hlt]⟩,Pv (i+1),fun σ' H' p'=>⟨xs.length-(i+1),by lia,rfl,hlt,p'⟩,fun x H' y=> ?_⟩;obtain⟨z,pp,e1,e2,e3,e4⟩:=y;subst e2 e4;exact hs i z σ H pp (e1 xs q) p e3
 .have e:i=xs.length:=by lia
  subst e;exact .inl ⟨⟨xs,q,AA _⟩,hd σ H p⟩
def t8_ (K:W.Frag):V->V->Hp->VK->Prop:=fun o i H Q=>∃(p:Addr) (xs:List V) (j:Nat) (k:Int) (v:V),o= .ref p/\i= .int k/\k=j/\SqL K H p xs/\xs[j]? =some v/\Q v H
theorem kb_ {X:Cx}:uI_ X (t8_ X.K):=by
 intro pins s σ H o i ov iv Q I r1 r2 h;obtain⟨p,xs,j,k,v,rfl,rfl,e,hq,hx,q⟩:=h;cases r1;obtain⟨t,rfl⟩:=r2;obtain⟨its,r,pl,hz⟩:=I.list hq;obtain⟨w,ew,rw'⟩:=r.get hx;have hl:=r.length;have hn:=fH_;have hj:j<xs.length:=(AD.mp hx).1;exact wpAny_getItem_list pl.isList (by lia) (by lia) (by rw [e,Ap];simpa using ew) ⟨v,H,I,rw',q⟩
end L2
namespace L2
open PySem PySem.Spec PyProof.Rows
section
variable {X:Cx}{e:Expr}{te:TE}{st:Expr}{ts:TO}{pos p2:Pos}
end
section
variable {X:Cx}{st:Stmt}{t:TS}
end
end L2
namespace L2
open PySem PySem.Spec PyProof.Rows
inductive D where
 |i (n:Int)|l (xs:List D)|t (xs:List D)
mutual
def Is (H:Hp):D->V->Prop
 | .i n,v=>v= .int n
 | .l xs,v=>∃a vs,v= .ref a/\H a=some (.lst vs)/\Iss H xs vs
 | .t xs,v=>∃a vs,v= .ref a/\H a=some (.tup vs)/\Iss H xs vs
def Iss (H:Hp):List D->List V->Prop
 |[],vs=>vs=[]
 |x::xs,vs=>∃u us,vs=u::us/\Is H x u/\Iss H xs us
end
theorem e4_ {H:Hp}{n:Int}:Is H (.i n) (.int n):=by unfold Is;rfl
theorem cq_ {H:Hp}{a:Addr}{xs:List D}{vs:List V} (h:H a=some (.lst vs)) (k:Iss H xs vs):Is H (.l xs) (.ref a):=by unfold Is;exact⟨a,vs,rfl,h,k⟩
theorem gX_ {H:Hp}{a:Addr}{xs:List D}{vs:List V} (h:H a=some (.tup vs)) (k:Iss H xs vs):Is H (.t xs) (.ref a):=by unfold Is;exact⟨a,vs,rfl,h,k⟩
theorem do_ {H:Hp}{n:Int}{v:V} (h:Is H (.i n) v):v= .int n:=by unfold Is at h;exact h
theorem bT_ {H:Hp}{xs:List D}{v:V} (h:Is H (.l xs) v):∃a vs,v= .ref a/\H a=some (.lst vs)/\Iss H xs vs:=by unfold Is at h;exact h
theorem hs_ {H:Hp}{xs:List D}{v:V} (h:Is H (.t xs) v):∃a vs,v= .ref a/\H a=some (.tup vs)/\Iss H xs vs:=by unfold Is at h;exact h
theorem am_ {H:Hp}:Iss H [] []:=by unfold Iss;rfl
theorem ai_ {H:Hp}{x:D}{xs:List D}{u:V}{us:List V} (h:Is H x u) (k:Iss H xs us):Iss H (x::xs) (u::us):=by unfold Iss;exact⟨u,us,rfl,h,k⟩
theorem aw_ {H:Hp}{x:D}{xs:List D}{vs:List V} (h:Iss H (x::xs) vs):∃u us,vs=u::us/\Is H x u/\Iss H xs us:=by unfold Iss at h;exact h
theorem bf_ {H:Hp}{vs:List V} (h:Iss H [] vs):vs=[]:=by unfold Iss at h;exact h
mutual
theorem Is.mono {H H':Hp} (s:an_ H H'):∀{d:D}{v:V},Is H d v->Is H' d v
 | .i _,_,h=>by rw [do_ h];exact e4_
 | .l xs,_,h=>by
  obtain⟨a,vs,e,q,r⟩:=bT_ h;rw [e];exact cq_ (s _ _ q) (Iss.mono s r)
 | .t xs,_,h=>by
  obtain⟨a,vs,e,q,r⟩:=hs_ h;rw [e];exact gX_ (s _ _ q) (Iss.mono s r)
theorem Iss.mono {H H':Hp} (s:an_ H H'):∀{xs:List D}{vs:List V},Iss H xs vs->Iss H' xs vs
 |[],_,h=>by rw [bf_ h];exact am_
 |x::xs,_,h=>by
  obtain⟨u,us,e,q,r⟩:=aw_ h;rw [e];exact ai_ (Is.mono s q) (Iss.mono s r)
end
theorem Iss.length {H:Hp}:∀{xs:List D}{vs:List V},Iss H xs vs->vs.length=xs.length
 |[],_,h=>by rw [bf_ h];rfl
 |x::xs,_,h=>by
  obtain⟨u,us,rfl,_,r⟩:=aw_ h;rw [AY,AY,r.length]
theorem Iss.get {H:Hp}:∀{xs:List D}{vs:List V}{j:Nat}{x:D},Iss H xs vs->xs[j]? =some x->∃v,vs[j]? =some v/\Is H x v
 |[],_,_,_,_,e=>by simp at e
 |x::xs,_,0,_,h,e=>by
  obtain⟨u,us,rfl,q,_⟩:=aw_ h;simp at e;subst e;exact⟨u,rfl,q⟩
 |x::xs,_,j+1,_,h,e=>by
  obtain⟨u,us,rfl,_,r⟩:=aw_ h;obtain⟨v,e',k⟩:=r.get (j:=j) (by simpa using e);exact⟨v,by simpa using e',k⟩
theorem Iss.of_get {H:Hp}{xs:List D}{vs:List V}{j:Nat}{v:V} (h:Iss H xs vs) (e:vs[j]? =some v):∃x,xs[j]? =some x/\Is H x v:=by
 have hj:j<vs.length:=(AD.mp e).1;have hj':j<xs.length:=by rw [<-h.length];exact hj
 obtain⟨u,e1,k⟩:=h.get (A3 hj');rw [e] at e1;cases e1;exact⟨_,A3 hj',k⟩
theorem Iss.append {H:Hp}:∀{xs ys:List D}{vs ws:List V},Iss H xs vs->Iss H ys ws->Iss H (xs++ys) (vs++ws)
 |[],_,_,_,h,k=>by rw [bf_ h];exact k
 |x::xs,_,_,_,h,k=>by
  obtain⟨u,us,rfl,q,r⟩:=aw_ h;exact ai_ q (r.append k)
theorem Iss.take {H:Hp}:∀{xs:List D}{vs:List V} (n:Nat),Iss H xs vs->Iss H (xs.take n) (vs.take n)
 |[],_,n,h=>by rw [bf_ h];simp;exact am_
 |x::xs,_,0,h=>by simp;exact am_
 |x::xs,_,n+1,h=>by
  obtain⟨u,us,rfl,q,r⟩:=aw_ h;exact ai_ q (r.take n)
theorem Iss.drop {H:Hp}:∀{xs:List D}{vs:List V} (n:Nat),Iss H xs vs->Iss H (xs.drop n) (vs.drop n)
 |[],_,n,h=>by rw [bf_ h];simp;exact am_
 |x::xs,_,0,h=>h
 |x::xs,_,n+1,h=>by
  obtain⟨u,us,rfl,q,r⟩:=aw_ h;exact r.drop n
theorem Iss.rep {H:Hp}{x:D}{v:V} (h:Is H x v):∀n:Nat,Iss H (List.replicate n x) (List.replicate n v)
 |0=>am_
 |n+1=>by rw [BG,BG];exact ai_ h (Iss.rep h n)
mutual
def Kin:D->D->Prop
 | .i _, .i _=>True
 | .l xs, .l ys=>lg_ xs ys
 | .t xs, .t ys=>lg_ xs ys
 |_,_=>False
def lg_:List D->List D->Prop
 |x::xs,y::ys=>Kin x y/\lg_ xs ys
 |_,_=>True
end
mutual
def eqD:D->D->Bool
 | .i a, .i b=>decide (a=b)
 | .l xs, .l ys=>ki_ xs ys
 | .t xs, .t ys=>ki_ xs ys
 |_,_=>false
def ki_:List D->List D->Bool
 |[],[]=>true
 |x::xs,y::ys=>eqD x y&&ki_ xs ys
 |_,_=>false
end
mutual
def dep:D->Nat
 | .i _=>0
 | .l xs=>in_ xs+1
 | .t xs=>in_ xs+1
def in_:List D->Nat
 |[]=>0
 |x::xs=>max (dep x) (in_ xs)
end
mutual
theorem m2_:∀{a b:D},eqD a b=true↔a=b
 | .i a, .i b=>by simp [eqD]
 | .i _, .l _=>by simp [eqD]
 | .i _, .t _=>by simp [eqD]
 | .l _, .i _=>by simp [eqD]
 | .l xs, .l ys=>by simp [eqD,ez_ (xs:=xs) (ys:=ys)]
 | .l _, .t _=>by simp [eqD]
 | .t _, .i _=>by simp [eqD]
 | .t _, .l _=>by simp [eqD]
 | .t xs, .t ys=>by simp [eqD,ez_ (xs:=xs) (ys:=ys)]
theorem ez_:∀{xs ys:List D},ki_ xs ys=true↔xs=ys
 |[],[]=>by simp [ki_]
 |[],_::_=>by simp [ki_]
 |_::_,[]=>by simp [ki_]
 |x::xs,y::ys=>by simp [ki_,m2_ (a:=x) (b:=y),ez_ (xs:=xs) (ys:=ys)]
end
theorem oG_ {a:D}:eqD a a=true:=m2_.mpr rfl
theorem gM_:∀{xs ys:List D},xs.length=ys.length->ki_ xs ys=(List.range xs.length).all fun j=>eqD (xs.getD j (.i 0)) (ys.getD j (.i 0))
 |[],[],_=>by simp [ki_]
 |x::xs,y::ys,h=>by
  have ih:=gM_ (xs:=xs) (ys:=ys) (by simpa using h);rw [ki_,ih,AY,List.range_succ_eq_map];simp [List.all_map,Function.comp_def]
theorem kh_ {xs ys:List D} (h:xs.length≠ys.length):ki_ xs ys=false:=by
 cases e:ki_ xs ys with
 |false=>rfl
 |true=>exact absurd (Bb List.length (ez_.mp e)) h
mutual
theorem Is.eqr {K:W.Frag}{H:Hp}:∀{d e:D}{v w:V}{n:Nat},dep d<=n->Kin d e->Is H d v->Is H e w->EqR K H n v w (eqD d e)
 | .i a, .i b,_,_,n,_,_,h,k=>by
  rw [do_ h,do_ k,eqD];exact EqR.int n a b
 | .l xs, .l ys,_,_,0,hn,_,_,_=>absurd hn (by unfold dep;lia)
 | .l xs, .l ys,_,_,n+1,hn,hk,h,k=>by
  obtain⟨a,vs,rfl,ha,ra⟩:=bT_ h;obtain⟨b,ws,rfl,hb,rb⟩:=bT_ k;have hn':in_ xs<=n:=by unfold dep at hn;lia
  have hk':lg_ xs ys:=by unfold Kin at hk;exact hk
  have l1:=ra.length;have l2:=rb.length;rw [eqD];by_cases hl:xs.length=ys.length
  .rw [gM_ hl,<-l1];exact EqR.lists _ (SqL.of ha) (SqL.of hb) (by lia) fun j x y hx hy=>Iss.eqr hn' hk' ra rb hx hy
  .rw [kh_ hl];exact EqR.lens (SqL.of ha) (SqL.of hb) (by lia)
 | .t xs, .t ys,_,_,0,hn,_,_,_=>absurd hn (by unfold dep;lia)
 | .t xs, .t ys,_,_,n+1,hn,hk,h,k=>by
  obtain⟨a,vs,rfl,ha,ra⟩:=hs_ h;obtain⟨b,ws,rfl,hb,rb⟩:=hs_ k;have hn':in_ xs<=n:=by unfold dep at hn;lia
  have hk':lg_ xs ys:=by unfold Kin at hk;exact hk
  have l1:=ra.length;have l2:=rb.length;rw [eqD];have q:=EqR.tuples (d:=n) (fun j=>eqD (xs.getD j (.i 0)) (ys.getD j (.i 0))) (SqT.of (K:=K) ha) (SqT.of (K:=K) hb) fun j x y hx hy=>Iss.eqr hn' hk' ra rb hx hy;by_cases hl:xs.length=ys.length
  .rw [gM_ hl];rw [l1,l2,<-hl,Nat.min_self] at q;simpa using q
  .rw [kh_ hl];have z:(vs.length==ws.length)=false:=by rw [l1,l2];simpa using hl
   rw [z,DC] at q;exact q
 | .i _, .l _,_,_,_,_,hk,_,_=>by unfold Kin at hk;exact hk.elim
 | .i _, .t _,_,_,_,_,hk,_,_=>by unfold Kin at hk;exact hk.elim
 | .l _, .i _,_,_,_,_,hk,_,_=>by unfold Kin at hk;exact hk.elim
 | .l _, .t _,_,_,_,_,hk,_,_=>by unfold Kin at hk;exact hk.elim
 | .t _, .i _,_,_,_,_,hk,_,_=>by unfold Kin at hk;exact hk.elim
 | .t _, .l _,_,_,_,_,hk,_,_=>by unfold Kin at hk;exact hk.elim
theorem Iss.eqr {K:W.Frag}{H:Hp}:∀{xs ys:List D}{vs ws:List V}{n:Nat},in_ xs<=n->lg_ xs ys->Iss H xs vs->Iss H ys ws->∀{j:Nat}{x y:V},vs[j]? =some x->ws[j]? =some y->
  EqR K H n x y (eqD (xs.getD j (.i 0)) (ys.getD j (.i 0)))
 |[],_,_,_,_,_,_,h,_,_,_,_,e,_=>by rw [bf_ h] at e;simp at e
 |_::_,[],_,_,_,_,_,_,k,_,_,_,_,e=>by rw [bf_ k] at e;simp at e
 |x::xs,y::ys,_,_,n,hn,hk,h,k,0,u,w,e1,e2=>by
  obtain⟨u',us,rfl,q,_⟩:=aw_ h;obtain⟨w',ws,rfl,q',_⟩:=aw_ k;simp at e1 e2;subst e1 e2;have hk':Kin x y/\lg_ xs ys:=by unfold lg_ at hk;exact hk
  have hd:dep x<=n:=by unfold in_ at hn;lia
  exact Is.eqr (d:=x) (e:=y) hd hk'.1 q q'
 |x::xs,y::ys,_,_,n,hn,hk,h,k,j+1,u,w,e1,e2=>by
  obtain⟨u',us,rfl,_,r⟩:=aw_ h;obtain⟨w',ws,rfl,_,r'⟩:=aw_ k;have hk':Kin x y/\lg_ xs ys:=by unfold lg_ at hk;exact hk
  have hd:in_ xs<=n:=by unfold in_ at hn;lia
  have:=Iss.eqr (K:=K) hd hk'.2 r r' (j:=j) (by simpa using e1) (by simpa using e2);simpa using this
end
abbrev Pt:=Int×Int
def pt (p:Pt):D:= .t [.i p.1, .i p.2]
def hid (H:Hp) (a:Addr):Hp:=fun b=>if b=a then none else H b
theorem mS_ {H:Hp}{a b:Addr} (h:b≠a):hid H a b=H b:=by unfold hid;rw [A5 h]
theorem ox_ {H:Hp}{a:Addr}:hid H a a=none:=by unfold hid;rw [A7 rfl]
theorem oy_ {H:Hp}{a:Addr}:an_ (hid H a) H:=fun b o e=>by
 unfold hid at e;split at e
 .cases e
 .exact e
theorem dH_ {H H':Hp}{a:Addr} (s:an_ H H'):an_ (hid H a) (hid H' a):=fun b o e=>by
 unfold hid at e⊢;split at e
 .cases e
 .rename_i h;rw [A5 h];exact s b o e
end L2
namespace L2
open PySem PySem.Spec PyProof.Rows
section
variable {X:Cx}{es:List Expr}{t:TA}{pos:Pos}
def New (H:Hp) (o:HO) (Q:VK):Prop:=∀p H2,H p=none->an_ H H2->H2 p=some o->Q (.ref p) H2
theorem New.at {H:Hp}{o:HO}{Q:VK} (q:New H o Q) {p:Addr} (np:H p=none):Q (.ref p) (upd H p o):=q p _ np (an_.new np) ag_
def to_ (t:TA):TE:=fun σ H Q=>t σ H fun xs H1=>xs.length<=sizeLine/\New H1 (.tup xs) Q
def tx_ (t:TA):TE:=fun σ H Q=>t σ H fun xs H1=>xs.length<=sizeLine/\New H1 (.lst xs) Q
theorem aM_ {x1} (h:PA X es t):PE X (.Tuple es x1 pos) (to_ t):=by
 intro pins s σ H Q I hq;refine wpAny_Tuple_spliced (thn (h pos pins s σ H _ I hq) fun us s1 ⟨xs,H1,I1,r,z,q⟩=>⟨by rw [<-r.length];exact z, ?_⟩);refine⟨.ref s1.heap.objs.size,upd H1 s1.heap.objs.size (.tup xs),I1.laid (t':=s1.toks) (fun b u e=>A6 _ e) (AA _) ?_,rfl,q.at (I1.hok.fresh (AA _))⟩;exact⟨z,us,r,⟨_,AF _ rfl,rfl,_,rfl⟩⟩
theorem au_ (h:PA X es t):PE X (.List es pos) (tx_ t):=by
 intro pins s σ H Q I hq;refine wpAny_List_spliced (thn (h pos pins s σ H _ I hq) fun us s1 ⟨xs,H1,I1,r,z,q⟩=>⟨by rw [<-r.length];exact z, ?_⟩);refine⟨.ref s1.heap.objs.size,upd H1 s1.heap.objs.size (.lst xs),I1.laid (t':=s1.toks) (fun b u e=>A6 _ e) (AA _) ?_,rfl,q.at (I1.hok.fresh (AA _))⟩;exact⟨z,us,0,r,AF _ rfl⟩
theorem OpR.imp {f:Value->Value->Sem Value}{r r':R2} (h:OpR X f r) (k:∀x y H Q,r' x y H Q->r x y H Q):OpR X f r':=fun pins s σ H x y v u Q I rx ry q=>h pins s σ H x y v u Q I rx ry (k _ _ _ _ q)
theorem bQ_.imp {f:Value}{r r':List V->Hp->VK->Prop} (h:bQ_ X f r) (k:∀xs H Q,r' xs H Q->r xs H Q):bQ_ X f r':=fun pins s σ H xs us Q I rs q=>h pins s σ H xs us Q I rs (k _ _ _ q)
theorem gc_:OpR X (binaryOp .Add) (fun x y H Q=>∃xs zs,Is H (.l xs) x/\Is H (.l zs) y/\xs.length+zs.length<=sizeLine/\∀p H2,H p=none->an_ H H2->Is H2 (.l (xs++zs)) (.ref p)->Q (.ref p) H2):=
 pc_.imp fun x y H Q ⟨xs,zs,hx,hz,hl,q⟩=>by
  obtain⟨a,vs,rfl,ha,ra⟩:=bT_ hx;obtain⟨b,ws,rfl,hb,rb⟩:=bT_ hz;exact⟨a,b,vs,ws,rfl,rfl,ha,hb,by rw [ra.length,rb.length];exact hl,fun p np=>q p _ np (an_.new np) (cq_ ag_ ((ra.append rb).mono (an_.new np)))⟩
theorem lY_ {α:Type}{x:α}:∀n:Nat,(List.replicate n [x]).flatten=List.replicate n x
 |0=>rfl
 |n+1=>by rw [BG,Cp,lY_ n,BG];rfl
theorem eQ_:OpR X (binaryOp .Mult) (fun x y H Q=>∃d n,Is H (.l [d]) x/\y= .int n/\-(2^63)<=n/\n<2^63/\n.toNat<=sizeLine/\∀p H2,H p=none->an_ H H2->Is H2 (.l (List.replicate n.toNat d)) (.ref p)->Q (.ref p) H2):=
 r8_.imp fun x y H Q ⟨d,n,hx,ey,h1,h2,hl,q⟩=>by
  obtain⟨a,vs,rfl,ha,ra⟩:=bT_ hx;obtain⟨u,us,rfl,hu,ru⟩:=aw_ ra;rw [bf_ ru] at ha;refine⟨a,n,_,rfl,ey,ha,h1,h2,by rw [BS,Nat.one_mul];exact hl,fun p np=>q p _ np (an_.new np) ?_⟩;rw [lY_];exact cq_ ag_ ((Iss.rep hu _).mono (an_.new np))
theorem c4_:bQ_ X (.type "tuple") (fun vs H Q=>∃v xs,vs=[v]/\Is H (.l xs) v/\∀p H2,H p=none->an_ H H2->Is H2 (.t xs) (.ref p)->Q (.ref p) H2):=
 gR_.imp fun vs H Q ⟨v,xs,ev,hx,q⟩=>by
  subst ev;obtain⟨a,ws,rfl,ha,ra⟩:=bT_ hx;exact⟨a,ws,rfl, .inl ⟨SqL.of ha,fun p np=>q p _ np (an_.new np) (gX_ ag_ (ra.mono (an_.new np)))⟩⟩
theorem tf_ {α:Type}{xs:List α}{i:Int}{j:Nat}{x:α} (e:i=j) (h:xs[j]? =some x):atI xs i=some x:=by rw [e];exact ns_ h
theorem Iss.atI {H:Hp}{xs:List D}{vs:List V}{i:Int}{x:D} (h:Iss H xs vs) (e:L2.atI xs i=some x):∃u,L2.atI vs i=some u/\Is H x u:=by
 unfold L2.atI at e⊢;rw [h.length];cases q:ixN xs.length i with
 |none=>rw [q] at e;cases e
 |some j=>
  rw [q] at e;obtain⟨u,e1,k⟩:=h.get (j:=j) e;exact⟨u,e1,k⟩
theorem aQ_:IxR X (fun x y H Q=>∃xs i d,Is H (.t xs) x/\y= .int i/\atI xs i=some d/\∀u,Is H d u->Q u H):=by
 intro value slice pins s σ H x y v u Q I rx ry h hs;obtain⟨xs,i,d,hx,ey,e,q⟩:=h;obtain⟨a,vs,rfl,ha,ra⟩:=hs_ hx;obtain⟨z,ez,hz⟩:=ra.atI e;exact su_ value slice pins s σ H (.ref a) y v u Q I rx ry ⟨a,vs,i,z,rfl,ey,SqT.of ha,ez,q z hz⟩ hs
theorem nm_:bQ_ X (.builtin "len") (fun vs H Q=>∃v xs,vs=[v]/\(Is H (.l xs) v\/Is H (.t xs) v)/\Q (.int xs.length) H):=
 cM_.imp fun vs H Q ⟨v,xs,ev,hx,q⟩=>by
  subst ev;rcases hx with hx|hx
  .obtain⟨a,ws,rfl,ha,ra⟩:=bT_ hx;exact⟨a,ws,rfl, .inl (SqL.of ha),by rw [ra.length];exact q⟩
  .obtain⟨a,ws,rfl,ha,ra⟩:=hs_ hx;exact⟨a,ws,rfl, .inr (SqT.of ha),by rw [ra.length];exact q⟩
end
end L2
namespace L2
open PySem PySem.Spec PyProof.Rows
section
variable {P:Program}{w:World}{H:Hp}{h:Heap}{a:Addr}{o:HO}
theorem aC_.obj (x:aC_ P w H h a o):∃ob,h.get? a=some ob:=by
 cases o with
 |lst xs=>obtain⟨_,_,_,_,e⟩:=x;exact⟨_,e⟩
 |tup xs=>obtain⟨_,_,_,_,e,_⟩:=x;exact⟨_,e⟩
 |dK kvs=>obtain⟨_,_,_,_,_,_,_,e,_⟩:=x;exact⟨_,e⟩
 |dT kvs=>obtain⟨_,_,_,_,_,_,_,e,_⟩:=x;exact⟨_,e⟩
 |set S n=>obtain⟨_,_,_,_,e,_⟩:=x;exact⟨_,e⟩
 |ins C dx fs=>obtain⟨_,_,_,e,_⟩:=x;exact⟨_,e⟩
 |own y=>exact x
 |xd fs=>obtain⟨_,⟨_,_,_,e,_⟩,_⟩:=x;exact⟨_,e⟩
 |rng lo hi=>obtain⟨_,_,_,e⟩:=x;exact⟨_,e⟩
 |frz ob u=>exact⟨_,x.1⟩
 |tbl ps=>exact⟨_,x⟩
 |met f y=>exact⟨_,x⟩
 |ext φ=>exact x.2.1
end
def CX1 (P:Program) (w:World):CXT:=fun outer H s E e s'=>
 ∃(a C:Addr) (H':Hp) (B:Heap) (a0:Value),e= .ref a/\E (.ref C) none H'/\s'.os=s.os/\AllBare s'.gens/\Un (frs outer) [] H H' s.heap s'.heap/\HOk P w H' B/\H' a=none/\
  Heap.FlyingW B outer a (.ref C) a0 s'.heap/\(∀b o,s.heap.get? b=some o->H b=none->b∉frs outer->B.get? b=some o)/\(∀b o,s.heap.get? b=some o->b∉frs outer->∃o',B.get? b=some o')
def nw_ (X:Cx) (E:XK):Prop:=∀(pins:List (Addr×Obj)) (σ:St) (H:Hp) (s:Shared) (h':Heap) (e C:Addr) (args:List Value),Inv X pins σ H s->Heap.MadeExcOf s.heap h' e (.ref C) args->E (.ref C) none H->X.xe (.ref e) {s with heap:=h'}
theorem o9_ {X:Cx}{P:Program}{w:World}:ej_ (CX1 P w) X E0:=fun _ _ _ _ _ _ _ ⟨_,_,_,_,_,_,z,_⟩=>z.elim
section
variable {X:Cx}{pins:List (Addr×Obj)}{σ:St}{H H':Hp}{s s':Shared}{B h':Heap}{l:List Env}
theorem lv_ (u:Un (frs l) [] H H' s.heap s'.heap) (fl:s'.heap.FunFrames B l) (kB:∀b o,s.heap.get? b=some o->H b=none->b∉frs l->B.get? b=some o) (tB:∀b o,s.heap.get? b=some o->b∉frs l->∃o',B.get? b=some o')
  (st:B.StaysIn h') (up:s'.heap.UpToSlots h'):Un (frs l) [] H H' s.heap h' where
 keep:=fun b o e n hb _=>st b o (kB b o e n hb)
 slot:=fun b o e n hb hx=>by
  obtain⟨sl,e1⟩:=u.slot b o e n hb hx;obtain⟨_,o',e2,d⟩:=fl.mem hb;rw [e1] at e2;cases e2;obtain⟨sl',e3⟩:=up b _ e1 d;exact⟨sl',e3⟩
 free:=u.free
 there:=fun b o e hx=>by
  by_cases hb:b∈frs l
  .obtain⟨_,o',e2,d⟩:=fl.mem hb;obtain⟨sl',e3⟩:=up b _ e2 d;exact⟨_,e3⟩
  .obtain⟨o',e2⟩:=tB b o e hb;exact⟨o',st b o' e2⟩
 tups:=u.tups
 frzs:=u.frzs
 tbls:=u.tbls
theorem Inv.nstk (I:Inv X pins σ H s) {b:Addr}{o:Obj} (e:X.s₀.heap.get? b=some o) (hb:b∉X.fs):b∉frs X.stack:=fun z=>by
 rcases AJ.mp (I.stkSub b z) with q|q
 .exact absurd q (AL (Ag (AI e) I.ok.above))
 .exact hb q
theorem pp_ {env:Env}{b:Addr} (he:env∈l) (hf:env.frame=some b):b∈frs l:=DB.mpr ⟨env,he,hf⟩
theorem Inv.hidden (I:Inv X pins σ H s):HOk X.prog X.w H (W.hideAll s.heap (frs X.stack)):=fun a o e=>by
 refine(I.hok a o e).stay (fun b u hb q=>W.hideAll_get _ q fun z=> ?_) (fun _ q=>q) fun _ _ q=>q;have n:=I.stkFree b z;rcases hb with rfl|hb
 .rw [n] at e;cases e
 .rw [n] at hb;cases hb
structure Fnc (X:Cx):Prop where
 ex:X.ex=[]
 stk:X.stack=X.env::X.outer
 fr:X.env.frame=some X.env.locals
theorem CX1.mk {E:XK}{e C:Addr}{a0:Value} (F:Fnc X) (I:Inv X pins σ H s) (os:s'.os=s.os) (bare:AllBare s'.gens) (u:Un (frs X.stack) [] H H' s.heap s'.heap) (hB:HOk X.prog X.w H' B) (hE:E (.ref C) none H') (hn:H' e=none)
  (fl:Heap.FlyingW B X.outer e (.ref C) a0 s'.heap) (kB:∀b o,s.heap.get? b=some o->H b=none->b∉frs X.stack->B.get? b=some o) (tB:∀b o,s.heap.get? b=some o->b∉frs X.stack->∃o',B.get? b=some o'):
  CX1 X.prog X.w X.outer X.H₀ X.s₀ E (.ref e) s':=by
 have J:Inv X pins σ H' s':=I.call' (ch:=[]) os u (hB.kept fl.1) bare fun _ z=>absurd z (by simp);have ub:Un X.fs X.ex X.H₀ H' X.s₀.heap s'.heap:=J.base;have nx:∀b:Addr,b∉X.ex:=fun b=>by rw [F.ex];simp
 rw [F.ex] at ub;refine⟨e,C,H',B,a0,rfl,hE,J.os,J.bare,ub,hB,hn,fl,fun b o q n hb=> ?_,fun b o q hb=> ?_⟩
 .exact kB b o (I.base.keep b o q n hb (nx b)) (I.base.free b o q n (nx b)) (I.nstk q hb)
 .obtain⟨o',q'⟩:=I.base.there b o q (nx b);exact tB b o' q' (I.nstk q hb)
theorem l1_ {CX:CXT}{E:XK} (F:Fnc X) (hcx:CX=CX1 X.prog X.w) (hxe:X.xe=fun e s'=>wpAny (model X.prog X.w) X.A (leaving X.env e) (fun _ s''=>CX X.outer X.H₀ X.s₀ E e s'') (fun e' s''=>CX X.outer X.H₀ X.s₀ E e' s'') s'):nw_ X E:=by
 intro pins σ H s h' e C args I hx hE;subst hcx;rw [hxe];have fb:=I.stack;have hl:s.heap.FunFrames (W.hideAll s.heap (frs X.stack)) (X.env::X.outer):=by
  rw [F.stk] at fb⊢;exact W.funFrames_hide fb fun env he b hb=>pp_ he hb
 refine wpAny_leaves_madeW (base:=W.hideAll s.heap (frs X.stack)) (by rw [I.ok.frames,F.stk]) F.fr (fun b o q=>W.of_hideAll _ q) hl hx fun h'' t fl _ _ up=> ?_;have kB:∀b o,s.heap.get? b=some o->b∉frs X.stack->(W.hideAll s.heap (frs X.stack)).get? b=some o:=fun b o q n=>W.hideAll_get _ q n;have hn:H e=none:=by
  cases q:H e with
  |none=>rfl
  |some o=>
   obtain⟨ob,z⟩:=(I.hok e o q).obj;rw [hx.new] at z;cases z
 have u0:Un (frs X.stack) [] H H s.heap h':=Un.kept hx.keeps;have fl':h'.FunFrames (W.hideAll s.heap (frs X.stack)) X.stack:=by
  rw [F.stk];rw [F.stk] at hl;exact hl.of_keeps fun b o q _=>⟨o,hx.keeps b o q,rfl⟩
 have u:Un (frs X.stack) [] H H s.heap h'':=lv_ (s':={s with heap:=h'}) u0 fl' (fun b o q _ n=>kB b o q n) (fun b o q n=>⟨o,kB b o q n⟩) fl.1 up;exact CX1.mk (s':={s with heap:=h''}) F I rfl I.bare u I.hidden hE hn fl (fun b o q _ n=>kB b o q n) (fun b o q n=>⟨o,kB b o q n⟩)
theorem mg_ {CX:CXT}{E:XK} (F:Fnc X) (hcx:CX=CX1 X.prog X.w) (hxe:X.xe=fun e s'=>wpAny (model X.prog X.w) X.A (leaving X.env e) (fun _ s''=>CX X.outer X.H₀ X.s₀ E e s'') (fun e' s''=>CX X.outer X.H₀ X.s₀ E e' s'') s'):ej_ (CX1 X.prog X.w) X E:=by
 intro pins σ H s e s' I hc;subst hcx;rw [hxe];obtain⟨a,C,H',B,a0,rfl,hE,os,bare,u,hB,hn,fl,kB,tB⟩:=hc;refine wpAny_leaves_onW (by rw [I.ok.frames,F.stk]) F.fr (by rw [<-F.stk];exact fl) fun h'' fl'' up=> ?_;exact CX1.mk (s':={s' with heap:=h''}) F I os bare (lv_ u fl.2.2.1 kB tB fl''.1 up) hB hE hn fl'' kB tB
end
theorem Fun.okx {P:Program}{w:World}{K:W.Frag}{mg:Str->Option Value}{base:Heap}{x qual:Str}{st:Stmt}{f:Addr}{fd:FuncData}{N ps:List Str}{k:Nat}{sp:Sp} (F:Fun K x qual st f fd) (S:FnScope N ps (af_ st)) (len:∀vs H Q E,sp vs H Q E->vs.length=ps.length)
  (hbody:∀(cdv:Value) (A:Around) (outer:List Env) (s:Shared) (H:Hp) (vs:List V) (Q:VK) (E:XK),Room k (A.deeper (envOfC qual (af_ st) s.heap.objs.size f cdv))->sp vs H Q E->
   nw_ (lj_ (CX1 P w) P w K mg base N qual (af_ st) f cdv A outer s H E) E->ej_ (CX1 P w) (lj_ (CX1 P w) P w K mg base N qual (af_ st) f cdv A outer s H E) E->
   ∃t,PSs (lj_ (CX1 P w) P w K mg base N qual (af_ st) f cdv A outer s H E) (bC_ st) t/\t {nx:=fun _ H'=>Q .non H',rt:=Q} (start N vs) H):FnOk P w K mg base (CX1 P w) (k+1) f fd ps sp:=by
 obtain⟨oc,od,kV,doc,pm,an,cdv,ct,osl,rfl,lk,hcd⟩:=F.ex;refine sC_ lk hcd S len fun A outer s H vs Q E hr hsp=> ?_;have Fn:Fnc (lj_ (CX1 P w) P w K mg base N qual (af_ st) f cdv A outer s H E):=⟨rfl,rfl,rfl⟩;exact hbody cdv A outer s H vs Q E hr hsp (l1_ Fn rfl rfl) (mg_ Fn rfl rfl)
theorem Fun.oky {P:Program}{w:World}{K:W.Frag}{mg:Str->Option Value}{base:Heap}{x qual:Str}{st:Stmt}{f:Addr}{fd:FuncData}{N ps:List Str}{k:Nat}{sp:Sp} (F:Fun K x qual st f fd) (S:FnScope N ps (af_ st)) (len:∀vs H Q E,sp vs H Q E->vs.length=ps.length)
  (hbody:∀(cdv:Value) (A:Around) (outer:List Env) (s:Shared) (H:Hp) (vs:List V) (Q:VK) (E:XK),Room k (A.deeper (envOfC qual (af_ st) s.heap.objs.size f cdv))->sp vs H Q E->
   Fnc (lj_ CX0 P w K mg base N qual (af_ st) f cdv A outer s H E).nox->
   ∃t,PSs (lj_ CX0 P w K mg base N qual (af_ st) f cdv A outer s H E).nox (bC_ st) t/\t {nx:=fun _ H'=>Q .non H',rt:=Q} (start N vs) H):FnOk P w K mg base CX0 (k+1) f fd ps sp:=
 F.ok S len fun cdv A outer s H vs Q E hr hsp=>hbody cdv A outer s H vs Q E hr hsp ⟨rfl,rfl,rfl⟩
section
variable {X:Cx}{pos np cpos:Pos}{x:Str}{C:Addr}{E:XK}{e:Expr}{es:List Expr}{t:TA}
abbrev bmV:List Value:=[.type "ValueError", .type "Exception", .type "BaseException", .type "object"]
theorem qT_ {K:W.Frag}{h:Heap}{bmB:List Value}{newId:String} (Y:K.In h) (q:W.excIn K C bmB newId=true):
  ∃bm N nm qn bs hdct sn sub ab col dd k0 k1 k2 k3 k5 mN,h.get? C=some (excClassObj nm qn C N bs bm hdct sn sub ab col dd k0 k1 k2 k3 k5 newId)/\h.Ns N mN/\mN "__init__"=none/\OwnTail h bmB bm:=by
 unfold W.excIn at q;split at q
 case h_2=>cases q
 rename_i dd cd sl ho;split at q
 case h_2=>cases q
 rename_i C' bm k0 k1 k2 k3 n k5 hm hs;rw [AN,AN,AN,AN,AN,Cy,Cy,Cy,Bool.not_eq_true'] at q;obtain⟨⟨⟨⟨⟨e1,e2⟩,e3⟩,e4⟩,e5⟩,e6⟩:=q;subst e1 e2;rcases cd with⟨nm,bs,mro,ns,qn,hd,sn,sub,ab,col,del⟩;dsimp only at hm e3 e5 e6;subst hm e3;have hsl:sl= #[k0,k1,k2,k3,some (.builtin n),k5]:=by
  rcases sl with⟨l⟩;have hs':l=_:=hs;rw [hs']
 subst hsl;exact⟨bm,ns,nm,qn,bs,hd,sn,sub,ab,col,dd,k0,k1,k2,k3,k5,_,Y _ _ ho, .of_isNs (W.isNs_of_in Y e5),W.nsMap_none_of_in Y e5 e6,W.tail_of_in Y e4⟩
def oY_ (C:Addr) (E:XK) (t:TA):TS:=fun _ σ H=>t σ H fun vs H1=>vs.length<=sizeLine/\E (.ref C) none H1
theorem n1_ (hR:nw_ X E) (hg:Gl X x) (hm:X.mg x=some (.ref C)) (hC:W.excIn X.K C bmV "ValueError.__new__"=true) (hc:X.calm=true) (ha:PA X (e::es) t) (hdb:(x==("__debug__":Str))=false:=by decide)
  (he:starEach (e::es) X.env=(false,eval e X.env)::starEach es X.env:=by rfl) (hpl:(backTo cpos (starEach es X.env)).any (·.1)=false:=by rfl):
  PS X (.Raise (some (.Call (.Name x np) (e::es) [] cpos)) none pos) (oY_ C E t):=by
 intro pins s σ H D I h;have hcl:=I.ok.mod.kin;obtain⟨bm',N',nm',qn',bs',hdct',sn',sub',ab',col',dd',k0',k1',k2',k3',k5',mN',hCb,hNb,hnib,TLb⟩:=qT_ hcl hC;refine wpAny_Raise_call_subT (q:=qn') (N:=N') (bs:=bs') (bm:=bm') (hdct:=hdct') (sn:=sn') (sub:=sub') (ab:=ab') (col:=col') (dd:=dd') (k0:=k0') (k1:=k1') (k2:=k2') (k3:=k3') (k5:=k5') (nm:=nm') (mN:=mN') PySem.F.excBase_ValueError
  (TLb.hasType (by ac_nf)) (I.ok.hd hc) (by rw [he];show(false||(backTo cpos (starEach es X.env)).any (·.1))=false;rw [hpl];rfl) hnib (gz_ I hg hm ⟨rfl, ?_⟩ hdb)
 have h2:=ha cpos pins s σ H _ I h;rw [he] at h2⊢;refine Calls.evalArgs_plain (thn h2 fun us s1 ⟨vs,H1,I1,r,hz,hE⟩=>⟨rfl,by rw [<-r.length];exact hz,I1.bk _ _ hCb,hNb.keeps I1.bk,TLb.keeps I1.bk,fun h' e' hx=> ?_⟩);exact hR pins σ H1 s1 h' e' C us I1 hx hE
end
section
variable {X:Cx}{pos:Pos}{e v:Expr}{es:List Expr}{te:TE}
abbrev TJ:=Str->St->Hp->VK->Prop
def PJ (X:Cx) (es:List Expr) (t:TJ):Prop:=∀(out:Str) (pins:List (Addr×Obj)) (s:Shared) (σ:St) (H:Hp) (Q:VK),Inv X pins σ H s->t out σ H Q->wpAny (model X.prog X.w) X.A (joinParts out (evalEach es X.env)) (EP X pins σ Q) X.xe s
def tJn:TJ:=fun out _ H Q=>out.length<=sizeLine/\Q (.str out) H
def tJc (te:TE) (tr:TJ):TJ:=fun out σ H Q=>te σ H fun x H1=>∃y,x= .str y/\(out++y).length<=sizeLine/\tr (out++y) σ H1 Q
theorem rY_:PJ X [] tJn:=fun out pins s σ H Q I h=>joinParts_nil ⟨.str out,H,I.tok _,⟨_,rfl⟩,h.2⟩ h.1
theorem f7_ {tr:TJ} (he:PE X e te) (hr:PJ X es tr):PJ X (e::es) (tJc te tr):=by
 intro out pins s σ H Q I h;show wpAny _ _ (joinParts out (eval e X.env::evalEach es X.env)) _ _ _;refine joinParts_cons (thn (he pins s σ H _ I h) fun u s1 ⟨x,H1,I1,r1,y,ex,hz,q1⟩=> ?_);subst ex;obtain⟨tk,rfl⟩:=r1;exact⟨hz,hr (out++y) pins s1 σ H1 Q I1 q1⟩
theorem qf_ {v2:Expr}{t:TJ} (h:PJ X (e::v2::es) t):PE X (.JoinedStr (e::v2::es) pos) (fun σ H Q=>t Str.empty σ H Q):=fun pins s σ H Q I hq=>JoinedStr_many (h Str.empty pins s σ H Q I hq)
theorem mc_ (hv:PE X v te):PE X (.FormattedValue v (-1) none pos) (fun σ H Q=>te σ H fun x H1=>∃i,x= .int i/\i.natAbs.log2<1920/\Q (.str (toString i)) H1):=by
 intro pins s σ H Q I h;refine FormattedValue_plain (thn (hv pins s σ H _ I h) fun u s1 ⟨x,H1,I1,r1,i,ex,hz,q1⟩=> ?_);subst ex;obtain⟨tk,rfl⟩:=r1;exact formatField_int_small hz ⟨.str _,H1,I1.tok _,⟨_,rfl⟩,q1⟩
end
section
variable {X:Cx}{CX:CXT}{ps:List Str}{sp:Sp}{E:XK}{x:Str}{p pos:Pos}{e:Expr}{es:List Expr}{t:TA}{i:Nat}
end
end L2
namespace L2
open PySem PySem.Calls PyProof.Rows PySem.W Builtin Builtin.ObjectAttr Builtin.Getset_descriptor
structure XC (K:Frag) (C:Addr):Prop where
 cl:(clsIn K C).isSome=true
 ga:findIn K (.ref C) "__getattribute__"=some (some (.builtin "BaseException.__getattribute__"))
 gt:findIn K (.ref C) "__getattr__"=some none
 ca:findIn K (.ref C) "__class__"=some (some (.builtin "object.__class__"))
 gn:specialIn K (.builtin "object.__class__") "__get__"=some (some (.builtin "getset_descriptor.__get__"))
 tk:takesIn K (.builtin "object.__class__")=some true
 ob:mroIn K C (.type "object")=some true
 be:mroIn K C (.type "BaseException")=some true
section
variable {prog:Program}{w:World}{A:Around}{E:Value->Shared->Prop}{K:Frag}{x C:Addr}{h:Heap}{g:Array GenState}{d:Drawn}{t:Nat}{os:OsState}
theorem iq_ {M:Model}{o:Obj} (e:h.get? x=some o) (c:o.cls= .ref C):Looks M h (typeOf (.ref x)) (.ref C):=c▸(Looks.ld e).andThen .now
theorem rj_ {R:Result->Shared->Prop}{tp:Value} (Y:K.In h) (F:XC K C) (LT:∀M:Model,Looks M h (typeOf (.ref x)) (.ref C)) (q:R (.ok (.ret (.ref C))) ⟨h,g,d,t,os⟩):
  codeAny (model prog w) A (.call (.builtin "getset_descriptor.__get__") ⟨[.builtin "object.__class__", .ref x,tp],[]⟩) R ⟨h,g,d,t,os⟩:=by
 have L0:=LT (model prog w);have L1:=looks_mroIn (M:=model prog w) Y F.ob;refine codeAny_call_builtin KF.slot_gs.plain KF.entry_gs (KF.slot_gs.check _ _ _ _ _ _ _ _ KF.type_class (KF.args_gs _ _ _) ?_);unfold Builtin.«getset_descriptor.__get__» descrGet;rw [dga_obj];refine A0 (A2 ?_);unfold descrGetter descrCheckInstance descrNameAndClass isInstance;simp only [KF.owner_class]
 repeat lk
 refine⟨Code.quiet_builtin _ (by ac_nf),Bq KF.entry_class ?_⟩;unfold Builtin.«object.__class__» shownTypeOf
 repeat lk
 exact q
theorem pF_ {M:Model} (Y:K.In h) (F:XC K C):Looks M h (find (.ref x) (.ref C) "__class__") (.bind (.builtin "getset_descriptor.__get__") (.builtin "object.__class__")):=by
 have L1:=looks_findIn (M:=M) Y F.ca;have L2:Looks M h (getOf (some (.builtin "object.__class__"))) (some (.builtin "getset_descriptor.__get__")):=looks_specialIn Y F.gn;have L3:=looks_takesIn (M:=M) Y F.tk;exact L1.andThen (L2.andThen ((show Looks M h (dataDescriptor? (some (.builtin "object.__class__")) (some (.builtin "getset_descriptor.__get__"))) (some (.builtin "getset_descriptor.__get__", .builtin "object.__class__")) from L3.andThen .now).andThen (Looks.tag .now)))
theorem nH_ {tk:Tok}{Q:Fin->Shared->Prop} (Y:K.In h) (F:XC K C) (LT:∀M:Model,Looks M h (typeOf (.ref x)) (.ref C)) (q:Q (.done (.ret (.ref C))) ⟨h,g,d,t,os⟩):
  wpAny (model prog w) A (Builtin.«object.__getattribute__» ⟨[.ref x, .str "__class__" tk],[]⟩) Q E ⟨h,g,d,t,os⟩:=by
 have L0:=LT (model prog w);have L1:=pF_ (x:=x) (M:=model prog w) Y F;refine A0 (A2 (A0 (A2 (A0 (L0.at (A0 (L1.at ?_)))))));show wpAny _ _ (holding [.builtin "object.__class__"] (call (.builtin "getset_descriptor.__get__") [.builtin "object.__class__", .ref x, .ref C])>>=ret) _ _ _;exact A0 (Ar (wpAny_call (rj_ Y F LT (A2 q))))
theorem nI_ {nameV:Value}{M:Model}{Q:Unit->Shared->Prop} (Y:K.In h) (F:XC K C) (LT:∀M:Model,Looks M h (typeOf (.ref x)) (.ref C)) (q:Q () ⟨h,g,d,t,os⟩):
  wpAny M A (checkBuiltinCall "BaseException.__getattribute__" ⟨[.ref x,nameV],[]⟩) Q E ⟨h,g,d,t,os⟩:=by
 have e1:builtinKind "BaseException.__getattribute__"=some .slot:=by ac_nf
 have e2:splitId "BaseException.__getattribute__"=some ("BaseException","__getattribute__"):=by ac_nf
 have ha:=PySem.F.args_bexc_ga (.ref x) nameV;have L0:=LT M;have L1:=looks_mroIn (M:=M) Y F.be;simp only [checkBuiltinCall,e1,e2];refine A0 ?_;unfold isInstance
 repeat (first|lk|wp_step)
 exact q
theorem pG_ {Q:Option Value->Shared->Prop} (Y:K.In h) (F:XC K C) (LT:∀M:Model,Looks M h (typeOf (.ref x)) (.ref C)) (q:Q (some (.ref C)) ⟨h,g,d,t+1,os⟩):wpAny (model prog w) A (getAttr? (.ref x) "__class__") Q E ⟨h,g,d,t,os⟩:=by
 have L0:=LT (model prog w);have L1:=looks_findIn (M:=model prog w) Y F.ga;have L2:=looks_findIn (M:=model prog w) Y F.gt;have e2:(Value.builtin "BaseException.__getattribute__"==Value.builtin "object.__getattribute__")=false:=by ac_nf
 have e1:(onTheHeap (Value.ref C)&&Value.builtin "BaseException.__getattribute__"==Value.builtin "object.__getattribute__")=false:=by rw [e2];rfl
 have f3:=PySem.F.excAttr_ValueError.ga.bind (.ref x);unfold getAttr? getAttrBy? getAttrBy;refine A0 (wpAny_mkText (A0 (Bv (Ar (A0 (L0.at (A0 (L1.at ?_))))))));dsimp only;rw [e1];simp only [AH,Am]
 repeat (any_goals (first|assumption|with_reducible refine L2.at ?_|wp_step))
 refine codeAny_call_builtin PySem.F.excAttr_ValueError.ga.plain PySem.F.entry_bexc_ga (nI_ Y F LT (nH_ Y F LT ?_))
 repeat (any_goals (first|assumption|lk|wp_step))
theorem j0_ (F:XC K C):KitX K (.ref x) (.ref C) (fun h=>∃o,h.get? x=some o/\o.cls= .ref C) where
 ty:=fun _ _ _ ⟨_,e,c⟩=>iq_ e c
 it:=fun _ _ Y _=>by
  have z:=F.cl;unfold clsIn at z;split at z
  .rename_i ho;intro A' Q' E' s' k q;unfold isType loadHead;exact A0 (wpAny_loadPart (k _ _ (Y _ _ ho)) (A2 q))
  .cases z
 ne:=fun h tp dd its n sl Y htp=>by
  have z:=F.cl;unfold clsIn at z;split at z
  .rename_i ho;refine Bool.eq_false_iff.mpr fun q=> ?_;have e:C=tp:=Value.ref.inj (Cy.mp q);subst e;have y:=(Y _ _ ho).symm.trans htp;cases y
  .cases z
 ca:=fun{_ _ _ _ _ s} Y ⟨_,e,c⟩ k=>by
  obtain⟨hh,g,d,t,os⟩:=s;exact pG_ Y F (fun M=>iq_ e c) k
end
def oF_ (C a:Addr):HO:= .ext fun h=>∃o,h.get? a=some o/\o.cls= .ref C
theorem qU_ {P:Program}{w:World}{H:Hp}{h:Heap}{a C:Addr} (e:∃o,h.get? a=some o/\o.cls= .ref C):aC_ P w H h a (oF_ C a):=
 ⟨e,e.elim fun o q=>⟨o,q.1⟩,fun _ _ ⟨o,q,c⟩ k=>⟨o,k o q,c⟩⟩
def rh_:V->Option Value
 | .ty n=>some (.type n)
 | .ref c=>some (.ref c)
 |_=>none
theorem kt_ {v:V}{c u:Value} (e:rh_ v=some c) (r:aZ_ v u):u=c:=by
 cases v<;>first|(cases e;exact r)|cases e
section
variable {X:Cx}
theorem oO_:bQ_ X (.builtin "isinstance") (fun xs H Q=>∃a C v c b,xs=[.ref a,v]/\H a=some (oF_ C a)/\XC X.K C/\rh_ v=some c/\kitOne X.K (.ref C) c=some b/\Q (.bl b) H):=by
 intro pins s σ H xs us Q I r h;obtain⟨a,C,v,c,b,rfl,ha,F,ev,e,q⟩:=h;obtain⟨u,w',rfl,ru,rw'⟩:=ls_ r;obtain rfl:u=Value.ref a:=ru;obtain rfl:=kt_ ev rw';exact kia_one (j0_ F) I.kIn (I.hok a _ ha).1 e (fun z=>nomatch z) fun tk=>⟨.bl b,H,I.tok tk,rfl,q⟩
theorem h9_ {K:Frag} (hK:X.K=K):bQ_ X (.builtin "isinstance") (fun xs H Q=>∃a C v c b,xs=[.ref a,v]/\H a=some (oF_ C a)/\XC K C/\rh_ v=some c/\kitOne K (.ref C) c=some b/\Q (.bl b) H):=hK▸oO_
theorem h2_:∀{vs:List V}{cs its:List Value},vs.mapM rh_=some cs->aV_ vs its->its=cs
 |[],_,_,e, .nil=>by cases e;rfl
 |v::vs,cs,_,e, .cons r t=>by
  rw [List.mapM_cons] at e;obtain⟨c,e1,e⟩:=AB.mp e;obtain⟨cs',e2,e⟩:=AB.mp e;cases e;rw [kt_ e1 r,h2_ e2 t]
theorem nn_:bQ_ X (.builtin "isinstance") (fun xs H Q=>∃a C p vs cs b,xs=[.ref a, .ref p]/\H a=some (oF_ C a)/\XC X.K C/\H p=some (.tup vs)/\vs.mapM rh_=some cs/\kitAny X.K (.ref C) cs=some b/\Q (.bl b) H):=by
 intro pins s σ H xs us Q I r h;obtain⟨a,C,p,vs,cs,b,rfl,ha,F,hp,ev,e,q⟩:=h;obtain⟨u,w',rfl,ru,rw'⟩:=ls_ r;obtain rfl:u=Value.ref a:=ru;obtain rfl:w'=Value.ref p:=rw';obtain⟨_,its,rv,⟨oc,od,dt,sl⟩,ho,hc,n,hd⟩:=(show aC_ X.prog X.w H s.heap p (.tup vs) from I.hok p _ hp);simp only at hc hd;subst hc hd;obtain rfl:=h2_ ev rv;exact kia_tup (j0_ F) I.kIn (I.hok a _ ha).1 ho e (fun z=>nomatch z) fun tk=>⟨.bl b,H,I.tok tk,rfl,q⟩
theorem la_ {K:Frag} (hK:X.K=K):bQ_ X (.builtin "isinstance") (fun xs H Q=>∃a C p vs cs b,xs=[.ref a, .ref p]/\H a=some (oF_ C a)/\XC K C/\H p=some (.tup vs)/\vs.mapM rh_=some cs/\kitAny K (.ref C) cs=some b/\Q (.bl b) H):=hK▸nn_
end
end L2
namespace L2
open PySem PySem.Spec PyProof.Rows PySem.W
abbrev Cx.inTry (X:Cx) (pn:List (Addr×Obj)) (z:Value->Shared->Prop):Cx:={X with pn:=pn,xe:=z}
abbrev Cx.inSuite (X:Cx) (e:Addr):Cx:={X with A:=X.A.mark (some (.ref e)),calm:=false,xe:=fun _ _=>False}
def d3_ (σ:St):St:=σ.map fun _=>none
theorem fF_ {σ:St}{i:Nat}{v:V} (h:(d3_ σ)[i]? =some (some v)):False:=by
 unfold d3_ at h;rw [A9] at h;cases e:σ[i]? with
 |none=>rw [e] at h;cases h
 |some a=>rw [e] at h;cases h
section
variable {X:Cx}{pins pn:List (Addr×Obj)}{σ:St}{H H':Hp}{s s':Shared}{z:Value->Shared->Prop}{e:Addr}
theorem Inv.toTry (I:Inv X pins σ H s):Inv (X.inTry (X.pn++pins) z) [] σ H s:=
 ⟨⟨I.ok.mod,I.ok.kind,I.ok.glob,I.ok.blt,I.ok.above,I.ok.inj,I.ok.has,I.ok.cab,I.ok.hd,I.ok.frames,I.ok.stk,I.ok.exf,I.ok.bs,I.ok.bsz,I.ok.noex,I.ok.exfs,I.ok.funs,I.ok.frf⟩,
  I.os,I.bare,I.base,I.loc,I.cell,I.free,I.freeC,fun p hp=>I.pin p (by rw [Av] at hp;exact hp),I.hok,I.len⟩
theorem Inv.unTry {pins':List (Addr×Obj)} (I:Inv (X.inTry (X.pn++pins) z) pins' σ H s):Inv X pins σ H s:=
 ⟨⟨I.ok.mod,I.ok.kind,I.ok.glob,I.ok.blt,I.ok.above,I.ok.inj,I.ok.has,I.ok.cab,I.ok.hd,I.ok.frames,I.ok.stk,I.ok.exf,I.ok.bs,I.ok.bsz,I.ok.noex,I.ok.exfs,I.ok.funs,I.ok.frf⟩,
  I.os,I.bare,I.base,I.loc,I.cell,I.free,I.freeC,fun p hp=>I.pin p (List.mem_append_left _ hp),I.hok,I.len⟩
theorem Inv.toSuite (I:Inv X pins σ H s):Inv (X.inSuite e) pins σ H s:=
 ⟨⟨I.ok.mod,I.ok.kind,I.ok.glob,I.ok.blt,I.ok.above,I.ok.inj,I.ok.has,I.ok.cab,fun q=>absurd q AT,I.ok.frames,I.ok.stk,I.ok.exf,I.ok.bs,I.ok.bsz,I.ok.noex,I.ok.exfs,I.ok.funs,I.ok.frf⟩,
  I.os,I.bare,I.base,I.loc,I.cell,I.free,I.freeC,I.pin,I.hok,I.len⟩
theorem Inv.unSuite (hd:X.calm=true->X.A.handled=none) (I:Inv (X.inSuite e) pins σ H s):Inv X pins σ H s:=
 ⟨⟨I.ok.mod,I.ok.kind,I.ok.glob,I.ok.blt,I.ok.above,I.ok.inj,I.ok.has,I.ok.cab,hd,I.ok.frames,I.ok.stk,I.ok.exf,I.ok.bs,I.ok.bsz,I.ok.noex,I.ok.exfs,I.ok.funs,I.ok.frf⟩,
  I.os,I.bare,I.base,I.loc,I.cell,I.free,I.freeC,I.pin,I.hok,I.len⟩
theorem SP.unTry {D:Ends}{f:Flow} (h:SP (X.inTry (X.pn++pins) z) [] D f s'):SP X pins D f s':=by
 cases f with
 |next=>obtain⟨σ',H',I,q⟩:=h;exact⟨σ',H',I.unTry,q⟩
 |brk=>obtain⟨σ',H',I,q⟩:=h;exact⟨σ',H',I.unTry,q⟩
 |cont=>obtain⟨σ',H',I,q⟩:=h;exact⟨σ',H',I.unTry,q⟩
 |ret u=>obtain⟨v,σ',H',I,r,q⟩:=h;exact⟨v,σ',H',I.unTry,r,q⟩
theorem Inv.goes {h':Heap}{m':Str->Option Value}{t':Nat} (I:Inv X pins σ H s) (hn:h'.Ns X.env.locals m') (hs:Heap.SameBut X.env.locals s.heap h'):Inv X pins (d3_ σ) H {s with heap:=h',toks:=t'}:=by
 have lt:∀{b:Addr}{o:Obj},X.s₀.heap.get? b=some o->b≠X.env.locals:=fun e=>AL (Ag (AI e) I.ok.above);refine⟨I.ok,I.os,I.bare,⟨fun b o e n hb hx=> ?_,fun b o e n hb hx=> ?_,I.base.free,fun b o e hx=> ?_,I.base.tups,I.base.frzs,I.base.tbls⟩,⟨m',hn,fun i x v _ e2 _=>(fF_ e2).elim⟩,fun y c e=> ?_,I.free,I.freeC,fun p hp=> ?_,fun b ob e=> ?_, ?_⟩
 .exact(hs.2 b (lt e)).trans (I.base.keep b o e n hb hx)
 .obtain⟨sl,e1⟩:=I.base.slot b o e n hb hx;exact⟨sl,(hs.2 b (lt e)).trans e1⟩
 .obtain⟨o',e1⟩:=I.base.there b o e hx;exact⟨o',(hs.2 b (lt e)).trans e1⟩
 .obtain⟨w',q⟩:=I.cell y c e;exact⟨w',q.sameBut hs (I.cne y c e)⟩
 .obtain⟨e,n,ne,nf,d⟩:=I.pin p hp;exact⟨(hs.2 p.1 ne).trans e,n,ne,nf,d⟩
 .refine(I.hok b ob e).stay (fun c v hc q=>(hs.2 c fun ec=> ?_).trans q) (fun _ q=>q) fun _ _ q=>q;have fr:=I.free;rw [<-ec] at fr;rcases hc with rfl|hc
  .rw [fr] at e;cases e
  .rw [fr] at hc;cases hc
 .unfold d3_;rw [A1];exact I.len
theorem Inv.nones (I:Inv X pins σ H s):Inv X pins (L2.d3_ σ) H s:=I.weak (by unfold L2.d3_;rw [A1]) fun i v e=>(fF_ e).elim
theorem Inv.hold {C:Addr} (I:Inv X pins σ H s) (hn:H e=none) (hL:e≠X.env.locals) (hnew:X.s₀.heap.get? e=none/\(∀x c,X.env.cells.lookup x=some c->c≠e)/\(∀p∈X.pn++pins,p.1≠e)) (ho:∃o,s.heap.get? e=some o/\o.cls= .ref C):
  Inv X pins σ (upd H e (oF_ C e)) s:=by
 obtain⟨n0,nc,np⟩:=hnew;have ne0:∀{b:Addr}{o:Obj},X.s₀.heap.get? b=some o->b≠e:=fun{b o} q z=>by rw [z,n0] at q;cases q
 have neh:∀{b:Addr}{o:HO},H b=some o->b≠e:=fun q=>ay_ q hn;refine⟨I.ok,I.os,I.bare,⟨I.base.keep,I.base.slot,fun b o q n hx=> ?_,I.base.there,fun b xs q=> ?_,fun b o u q=> ?_,fun b ps q=> ?_⟩,I.loc,I.cell, ?_,fun x c q=> ?_,fun p hp=> ?_,fun b o q=> ?_,I.len⟩
 .rw [ak_ (ne0 q)];exact I.base.free b o q n hx
 .have z:=I.base.tups b xs q;rw [ak_ (neh z)];exact z
 .have z:=I.base.frzs b o u q;rw [ak_ (neh z)];exact z
 .obtain⟨more,z⟩:=I.base.tbls b ps q;exact⟨more,by rw [ak_ (neh z)];exact z⟩
 .rw [ak_ (C9 hL)];exact I.free
 .rw [ak_ (nc x c q)];exact I.freeC x c q
 .obtain⟨a1,a2,a3⟩:=I.pin p hp;exact⟨a1,by rw [ak_ (np p hp)];exact a2,a3⟩
 .by_cases hb:b=e
  .subst hb;rw [ag_] at q;cases q;exact qU_ ho
  .rw [ak_ hb] at q;exact(I.hok b o q).stay (fun _ _ _ q=>q) (fun c q=>by rw [ak_ (neh q)];exact q) fun c xs q=>by rw [ak_ (neh q)];exact q
end
def Ends.forget (D:Ends) (n:Nat):Ends:={nx:=fun _ H=>D.nx (List.replicate n none) H,rt:=D.rt,bk:=fun _ H=>D.bk (List.replicate n none) H,ct:=fun _ H=>D.ct (List.replicate n none) H}
theorem hu_ {σ:St}:d3_ σ=List.replicate σ.length none:=by
 unfold d3_;induction σ with
 |nil=>rfl
 |cons a r ih=>rw [AK,ih,AY,BG]
def uK_ (K:Frag) (hc:Addr) (i n:Nat) (tb:XK->TS) (ts:TS):TS:=fun D σ H=>∃E:XK,tb E D σ H/\
 ∀(C e:Addr) (H':Hp),E (.ref C) none H'->H' e=none->exmOne K (.ref C) (.ref hc)=some true/\ts (D.forget n) ((List.replicate n none).set i (some (.ref e))) (upd H' e (oF_ C e))
theorem rW_ {X:Cx}{x n:Str}{hc:Addr}{i len:Nat}{body suite:List Stmt}{b₀:Stmt}{tb:XK->TS}{ts:TS}{np hpos pos:Pos} (F:Fnc X) (hl:X.N.length=len) (hN:X.N.Nodup) (hi:X.N[i]? =some n) (hx:Loc X.env.scope n) (hloc:X.env.kindOf n=some .local) (hg:Gl X x) (hm:X.mg x=some (.ref hc))
  (hb:∀(E:XK) pn z,ej_ (CX1 X.prog X.w) (X.inTry pn z) E->PSs (X.inTry pn z) body (tb E)) (hs:∀e,PSs (X.inSuite e) (b₀::suite) ts) (hf:X.fn n=true\/X.env.scope.names.lookup n=some .local:=by first|exact .inl rfl|exact .inr rfl) (hdb:(x==("__debug__":Str))=false:=by decide):
  PS X (.Try body [.ExceptHandler (some (.Name x np)) (some n) (b₀::suite) hpos] [] [] pos) (uK_ X.K hc i len tb ts):=by
 intro pins s σ H D I ⟨E,hw,hE⟩;have hP:ej_ (CX1 X.prog X.w) (X.inTry (X.pn++pins) fun e s'=>∃σ' H s,Inv X pins σ' H s/\CX1 X.prog X.w X.stack H s E e s') E:=fun pins' σ' H1 s1 e s' J q=>⟨σ',H1,s1,J.unTry,q⟩;refine wpAny_Try_except (BU (hb E _ _ hP [] s σ H D I.toTry hw) (fun f s1 q=> ?_) fun ev s1 q=> ?_)
 .have q':=SP.unTry q;cases f with
  |next=>exact wpAny_execs_nil q'
  |ret u=>exact q'
  |brk=>exact q'
  |cont=>exact q'
 obtain⟨σ1,H1,s0,I0,a,C,H',B,a0,rfl,hEE,os,bare,u,hB,hn,fl,kB,tB⟩:=q;obtain⟨hmt,hts⟩:=hE C a H' hEE hn;have nfr:a∉frs X.stack:=fun z=>by
  obtain⟨_,o,e1,d⟩:=fl.2.2.1.mem z;obtain⟨oe,vs,e2,_,dd,_⟩:=fl.first;rw [e1] at e2;cases e2;exact d _ dd
 have at_:∀{h5:Heap},B.StaysIn h5->s1.heap.UpToSlots h5->Inv X pins σ1 H' {s1 with heap:=h5}:=fun{h5} st up=>
  I0.call' (s':={s1 with heap:=h5}) (ch:=[]) os (lv_ u fl.2.2.1 kB tB st up) (hB.kept st) bare fun _ z=>absurd z (by simp)
 have bn:=fl.2.1;have new0:s0.heap.get? a=none:=by
  cases q:s0.heap.get? a with
  |none=>rfl
  |some o=>
   obtain⟨o',z⟩:=tB a o q nfr;rw [bn] at z;cases z
 have hnL:a≠X.env.locals:=fun z=>nfr (by rw [F.stk,z];exact pp_ (AX ..) F.fr);have new:X.s₀.heap.get? a=none/\(∀x c,X.env.cells.lookup x=some c->c≠a)/\(∀p∈X.pn++pins,p.1≠a):=by
  refine⟨?_,fun y c q z=> ?_,fun p hp z=> ?_⟩
  .cases q:X.s₀.heap.get? a with
   |none=>rfl
   |some o=>
    obtain⟨o',z⟩:=I0.base.there a o q (by rw [F.ex];simp);rw [new0] at z;cases z
  .obtain⟨v,o,q1,_⟩:=I0.cell y c q;rw [z,new0] at q1;cases q1
  .have q1:=(I0.pin p hp).1;rw [z,new0] at q1;cases q1
 refine wpAny_looks_onW (by rw [I.ok.frames,F.stk]) F.fr (by rw [<-F.stk];exact fl) fun h4 held4 up4=> ?_;refine wpAny_landsW held4 fun h5 fl5 up5=> ?_;have I5:Inv (X.inSuite a) pins σ1 H' {s1 with heap:=h5}:=(at_ fl5.1 (up4.trans up5)).toSuite;refine wpAny_handleBy_cons (codeAny_handlers_test (gz_ I5 hg hm ?_ hdb)) (by intro q;cases q);obtain⟨ob,ho,hcl⟩:=fl5.there;refine(exm_one (K:=X.K) I5.kIn (iq_ ho hcl) hmt).here ?_;refine codeAny_handlers_suite_as ?_;refine lands_againW fl5 fun h6 fl6 up6=> ?_;obtain⟨ob6,ho6,hcl6⟩:=fl6.there;have I6:Inv X pins (d3_ σ1) (upd H' a (oF_ C a)) {s1 with heap:=h6}:=((at_ fl6.1 ((up4.trans up5).trans up6)).nones).hold hn hnL new ⟨ob6,ho6,hcl6⟩;have es:(d3_ σ1)=List.replicate len none:=by rw [hu_,I0.len,hl]
 rw [es] at I6;refine er_ (X:=X.inSuite a) (v:= .ref a) I6.toSuite hN hi hx rfl (fun s7 I7=> ?_) hf;refine BU (hs a pins s7 _ _ _ I7 hts) (fun f s8 q=> ?_) fun _ _ z=>z.elim;have go:∀{σ8:St}{H8:Hp},Inv (X.inSuite a) pins σ8 H8 s8->(∀s9,Inv X pins (List.replicate len none) H8 s9->SP X pins D f s9)->
   wpAny (model X.prog X.w) X.A (do bindName X.env n .none;unbindBehindTheSuite X.env n hpos) (fun _ s9=>SP X pins D f s9) X.xe s8:=fun{σ8 H8} I8 k=>by
  obtain⟨m,hns,_⟩:=I8.loc;refine wpAny_nameGoes hloc hns (by rw [I.ok.kind];rfl) fun h9 m9 hn9 hs9=> ?_;have J:=(Inv.unSuite I.ok.hd I8).goes (t':=s8.toks+1) hn9 hs9;have e8:(d3_ σ8)=List.replicate len none:=by rw [hu_,I8.len];exact Bb (fun k=>List.replicate k none) hl
  rw [e8] at J;exact k _ J
 cases f with
 |next=>obtain⟨σ8,H8,I8,q⟩:=q;exact go I8 fun s9 J=>⟨_,_,J,q⟩
 |brk=>obtain⟨σ8,H8,I8,q⟩:=q;exact go I8 fun s9 J=>⟨_,_,J,q⟩
 |cont=>obtain⟨σ8,H8,I8,q⟩:=q;exact go I8 fun s9 J=>⟨_,_,J,q⟩
 |ret u=>obtain⟨v,σ8,H8,I8,r,q⟩:=q;exact go I8 fun s9 J=>⟨v,_,_,J,r,q⟩
end L2
namespace L2
open PySem PySem.Spec PyProof.Rows
section
variable {X:Cx}{tg:Expr}
end
end L2
namespace L2
open PySem PySem.Spec PyProof.Rows
def lf_ (H:Hp) (v:V):Prop:=(∃i,v= .int i)\/(∃b,v= .bl b)\/v= .non\/(∃x,v= .str x)\/(∃a xs,v= .ref a/\H a=some (.lst xs))\/(∃a xs,v= .ref a/\H a=some (.tup xs))
def isI (v:V):Bool:=match v with
 | .int _=>true
 |_=>false
def Within (lo hi:Int) (v:V):Prop:=∃i,v= .int i/\lo<=i/\i<=hi
theorem ky_ {lo hi:Int}{v:V} (h:Within lo hi v):isI v=true:=by obtain⟨i,rfl,_⟩:=h;rfl
theorem hH_ {K:W.Frag}:W.kitOne K (.type "NoneType") (.type "int")=some false:=fJ_ (by ac_nf) (by ac_nf) (by ac_nf)
theorem ja_ {K:W.Frag}:W.kitOne K (.type "str") (.type "int")=some false:=fJ_ (by ac_nf) (by ac_nf) (by ac_nf)
theorem hI_ {K:W.Frag}:W.kitOne K (.type "list") (.type "int")=some false:=fJ_ (by ac_nf) (by ac_nf) (by ac_nf)
theorem gB_ {K:W.Frag}:W.kitOne K (.type "tuple") (.type "int")=some false:=fJ_ (by ac_nf) (by ac_nf) (by ac_nf)
def nQ_:Sp:=fun vs H Q _=>∃v,vs=[v]/\lf_ H v/\Q (.bl (isI v)) H
end L2
namespace L2
open PySem PySem.Spec PyProof.Rows
section
variable {X:Cx}{pins:List (Addr×Obj)}{σ:St}{H:Hp}{s:Shared}{h':Heap}{ch:List Addr}{t':Nat}
theorem ip_.chs (hf:∀b∈ch,ip_ X pins H b):∀b∈ch,(b∈X.ex\/X.s₀.heap.objs.size<=b)/\b≠X.env.locals/\(∀x c,X.env.cells.lookup x=some c->c≠b)/\∀p∈X.pn++pins,p.1≠b:=fun b hb=>by
 obtain⟨_,a2,_,a4,a5,a6⟩:=hf b hb;exact⟨a4,a2,a5,a6⟩
theorem Inv.turnAll (I:Inv X pins σ H s) (hf:∀b∈ch,ip_ X pins H b) (k:∀b o,b∉ch->s.heap.get? b=some o->h'.get? b=some o):Inv X pins σ H {s with heap:=h',toks:=t'}:=by
 have nin:∀{b u},H b=some u->b∉ch:=fun e z=>by rw [(hf _ z).1] at e;cases e
 refine I.step (g':=s.gens) (d':=s.drawn) (ch:=ch) (ip_.chs hf) (fun b o _ _ c e _=>k b o c e) (fun b o _ _ c e _=>⟨o.slots,k b o c e⟩) (fun _ _ _ _ n=>n) (fun b o c e=>⟨o,k b o c e⟩) (fun _ _ e=>e) (fun _ _ _ e=>e) (fun b ps e=>⟨#[],by rw [e];simp⟩) (fun m hm=> ?_) (fun b u e=> ?_) I.bare
 .obtain⟨o,es,ep,ho,r⟩:=hm;exact⟨o,es,ep,k _ o (fun z=>(hf _ z).2.1 rfl) ho,r⟩
 .refine(I.hok b u e).stay (fun c v hc q=>k c v ?_ q) (fun _ q=>q) fun _ _ q=>q;rcases hc with z|z
  .rw [z];exact nin e
  .exact nin z
theorem Inv.turnNew {o:HO} (I:Inv X pins σ H s) (hf:∀b∈ch,ip_ X pins H b) (k:∀b ob,b∉ch->s.heap.get? b=some ob->h'.get? b=some ob) (new:aC_ X.prog X.w (upd H s.heap.objs.size o) h' s.heap.objs.size o):
  Inv X pins σ (upd H s.heap.objs.size o) {s with heap:=h',toks:=t'}:=by
 have nf:H s.heap.objs.size=none:=I.hok.fresh (AA _);have nin:∀{b u},H b=some u->b∉ch:=fun e z=>by rw [(hf _ z).1] at e;cases e
 refine I.step (g':=s.gens) (d':=s.drawn) (ch:=ch) (ip_.chs hf) (fun b o _ _ c e _=>k b o c e) (fun b o _ _ c e _=>⟨o.slots,k b o c e⟩) (fun b ob c e n=> ?_) (fun b o c e=>⟨o,k b o c e⟩) (fun b ys e=> ?_) (fun b o u e=> ?_) (fun b ps e=>⟨#[], ?_⟩) (fun m hm=> ?_) (fun b u e=> ?_) I.bare
 .rw [ak_ (AL (AI e))];exact n
 .rw [ak_ (ay_ e nf)];exact e
 .rw [ak_ (ay_ e nf)];exact e
 .rw [ak_ (ay_ e nf),e];simp
 .obtain⟨o,es,ep,ho,r⟩:=hm;exact⟨o,es,ep,k _ o (fun z=>(hf _ z).2.1 rfl) ho,r⟩
 .by_cases hb:b=s.heap.objs.size
  .subst hb;rw [ag_] at e;cases e;exact new
  .rw [ak_ hb] at e;refine(I.hok b u e).stay (fun c v hc q=>k c v ?_ q) (fun c q=> ?_) fun c ys q=> ?_
   .rcases hc with z|z
    .rw [z];exact nin e
    .exact nin z
   .rw [ak_ (ay_ q nf)];exact q
   .rw [ak_ (ay_ q nf)];exact q
end
section
variable {X:Cx}{elts:List Expr}{k:Nat}{tpos p pos:Pos}{e f:Expr}{te tf:TE}
end
theorem eP_ {K:W.Frag}:s5_ 2 (sA_ K 2 (jd_ (eo_ 0) (jd_ (eo_ 1) tg_))):=by
 intro v σ H Q ⟨a,xs,e,hq,hl,x,r,ex,y,r2,er,en,q⟩;refine⟨a,xs,e,hq,hl,x,r,ex,y,r2,er,en,q, ?_,fun i hi=> ?_⟩
 .rw [Bn,Bn]
 .rw [CL (by lia),CL (by lia)]
theorem eW_ {K:W.Frag}:∀(σ:St) (H:Hp) (R R':St->Hp->Prop) (x:V),(∀σ' H',R σ' H'->R' σ' H')->sA_ K 2 (jd_ (eo_ 0) (jd_ (eo_ 1) tg_)) x σ H R->sA_ K 2 (jd_ (eo_ 0) (jd_ (eo_ 1) tg_)) x σ H R':=
 fun σ H R R' v k ⟨a,xs,e,hq,hl,x,r,ex,y,r2,er,en,q⟩=>⟨a,xs,e,hq,hl,x,r,ex,y,r2,er,en,k _ _ q⟩
theorem iQ_ {X:Cx}{es:List Expr}{k:Nat}{pos:Pos}{t:TGs}{n:Nat}{K:W.Frag} (hK:X.K=K) (hc:X.calm=true) (h:PGs X es t)
  (hn:(assignEach es X.env).length=n:=by rfl) (hst:(assignEach es X.env).findIdx? (·.1)=none:=by rfl):PG X (.Tuple es k pos) (sA_ K n t):=hK▸cn_ hc h hn hst
end L2
namespace PySem.SeqAt
open AutoSeq1 (wpAny_loadPart')
open MeetsSeq MeetsSeq2 MeetsSeq3 SeqRoads2
def LtAt (A:Around) (s:Shared) (y x:Value) (b:Bool):Prop:=
 ∀(prog:Program) (w:World) (E:Value->Shared->Prop) (Q:Value->Shared->Prop),Q (.bool b) s->wpAny (model prog w) A (richCompare .Lt y x) Q E s
def lex (e f:Nat->Bool) (m n:Nat):Nat->Nat->Bool
 |0,_=>decide (m<n)
 |k+1,i=>if e i=true then lex e f m n k (i+1) else f i
theorem mw_ (l b:Addr) (items items2:Array Value) (n n2:Nat) (dd dd2:Option Addr) (sl sl2:Array (Option Value)) (e f:Nat->Bool) (k:Nat):
  ∀i:Nat,min items.size items2.size-i=k->Meets (Builtin.«list.__eq__.loop» ⟨[.ref l, .ref b,rawInt i,rawInt 0],[]⟩)
   (fun A R s=>s.heap.get? l=some {cls:= .type "list",dict:=dd,data:= .seq items n,slots:=sl}/\s.heap.get? b=some {cls:= .type "list",dict:=dd2,data:= .seq items2 n2,slots:=sl2}/\
    (∀j (h1:j<items.size) (h2:j<items2.size),EqAt A.in1 s items[j] items2[j] (e j))/\(∀j (h1:j<items.size) (h2:j<items2.size),e j=false->LtAt A.in1 s items[j] items2[j] (f j))/\
    R (.ok (.ret (.bool (lex e f items.size items2.size k i)))) s):=by
 induction k with
 |zero=>
  intro i hk prog w A R s h;obtain⟨hp,g,d,tk,os⟩:=s;obtain⟨hl,hb,he,hf,h⟩:=h
  wp_walk using wpAny_loadPart' hl,CJ hb
  rcases(by lia:items.size<=i\/(i<items.size/\items2.size<=i)) with q|⟨q1,q2⟩
  .have hi1:items[((i:Nat):Int).toNat]? =none:=by simp;lia
   rw [hi1]
   wp_walk using wpAny_loadPart' hl,CJ hb
   exact h
  .have hi1:items[((i:Nat):Int).toNat]? =some items[i]:=by simp [q1]
   have hi2:items2[((i:Nat):Int).toNat]? =none:=by simp;lia
   rw [hi1,hi2]
   wp_walk using wpAny_loadPart' hl,CJ hb
   exact h
 |succ k ih=>
  intro i hk prog w A R s h;obtain⟨hp,g,d,tk,os⟩:=s;obtain⟨hl,hb,he,hf,h⟩:=h
  wp_walk using wpAny_loadPart' hl,CJ hb
  have hlt:i<items.size:=by lia
  have hlt2:i<items2.size:=by lia
  have hi1:items[((i:Nat):Int).toNat]? =some items[i]:=by simp [hlt]
  have hi2:items2[((i:Nat):Int).toNat]? =some items2[i]:=by simp [hlt2]
  have hc:((i:Int)+1)=((i+1:Nat):Int):=by push_cast;rfl
  unfold lex at h;rw [hi1,hi2];refine A0 (he i hlt hlt2 prog w _ _ ?_);cases hb':e i with
  |true=>
   rw [hb',A7 rfl] at h
   wp_walk
   rw [hc];exact⟨D9 plain_eq_loop _,Bq entry_eq_loop (by
    rw [Bp plain_eq_loop _];exact ih (i+1) (by lia) prog w A R _ ⟨hl,hb,he,hf,h⟩)⟩
  |false=>
   rw [hb',A5 (by simp)] at h
   wp_walk using wpAny_loadPart' hl,CJ hb
   rw [hi1,hi2];refine A0 (hf i hlt hlt2 hb' prog w _ _ ?_)
   wp_walk
   exact h
theorem hA_ (l b:Addr) (items items2:Array Value) (n n2:Nat) (dd dd2:Option Addr) (sl sl2:Array (Option Value)) (e f:Nat->Bool):
  Meets (Builtin.«list.__lt__» ⟨[.ref l, .ref b],[]⟩)
   (fun A R s=>s.heap.get? l=some {cls:= .type "list",dict:=dd,data:= .seq items n,slots:=sl}/\s.heap.get? b=some {cls:= .type "list",dict:=dd2,data:= .seq items2 n2,slots:=sl2}/\
    (∀j (h1:j<items.size) (h2:j<items2.size),EqAt A.in1 s items[j] items2[j] (e j))/\(∀j (h1:j<items.size) (h2:j<items2.size),e j=false->LtAt A.in1 s items[j] items2[j] (f j))/\
    R (.ok (.ret (.bool (lex e f items.size items2.size (min items.size items2.size) 0)))) s):=by
 intro prog w A R s h;obtain⟨hp,g,d,tk,os⟩:=s;obtain⟨hl,hb,he,hf,h⟩:=h;have f3:=AutoSeq1.sub_list_list
 wp_walk using wpAny_loadPart' hl,CJ hb
 exact⟨D9 plain_eq_loop _,Bq entry_eq_loop (by
  rw [Bp plain_eq_loop _];exact mw_ l b items items2 n n2 dd dd2 sl sl2 e f _ 0 rfl prog w A R _ ⟨hl,hb,he,hf,by simpa using h⟩)⟩
theorem kD_ (l b:Addr) (items items2:Array Value) (n n2:Nat) (dd dd2:Option Addr) (sl sl2:Array (Option Value)) (e f:Nat->Bool):
  Meets (Builtin.«tuple.__lt__» ⟨[.ref l, .ref b],[]⟩)
   (fun A R s=>s.heap.get? l=some {cls:= .type "tuple",dict:=dd,data:= .seq items n,slots:=sl}/\s.heap.get? b=some {cls:= .type "tuple",dict:=dd2,data:= .seq items2 n2,slots:=sl2}/\
    (∀j (h1:j<items.size) (h2:j<items2.size),EqAt A.in1 s items[j] items2[j] (e j))/\(∀j (h1:j<items.size) (h2:j<items2.size),e j=false->LtAt A.in1 s items[j] items2[j] (f j))/\
    R (.ok (.ret (.bool (lex e f items.size items2.size (min items.size items2.size) 0)))) s):=
 .of_wp fun prog w A R s h=>by
  obtain⟨hp,g,d,tk,os⟩:=s;obtain⟨hl,hb,he,hf,h⟩:=h;have f2:=AutoSeq1.sub_tuple_tuple;have hZ:(items.toList.zip items2.toList).length=min items.size items2.size:=by simp
  wp_walk using wpAny_loadPart' hl,CJ hb,Bx _ (fun cl_ b s'=>b.1=none/\s'=⟨hp,g,d,tk,os⟩/\∃i,cl_=(items.toList.zip items2.toList).drop i/\i<=min items.size items2.size/\
   R (.ok (.ret (.bool (lex e f items.size items2.size (min items.size items2.size-i) i)))) ⟨hp,g,d,tk,os⟩) _
  case turn=>
   rintro⟨y,x⟩ cl_ b s' ⟨hb',rfl,i,hz,hile,hR⟩;have hlt:i<(items.toList.zip items2.toList).length:=by
    rcases Bj i (items.toList.zip items2.toList).length with h'|h'
    .exact h'
    .rw [List.drop_of_length_le h'] at hz;cases hz
   have hm:i<min items.size items2.size:=hZ▸hlt;have h1:i<items.size:=Ag hm (Nat.min_le_left _ _);have h2:i<items2.size:=Ag hm (Nat.min_le_right _ _);rw [Bg hlt] at hz;injection hz with hyx hrest;have hy:y=items[i]:=by have:=Bb Prod.fst hyx;simpa using this
   have hx:x=items2[i]:=by have:=Bb Prod.snd hyx;simpa using this
   subst hy hx;rw [show min items.size items2.size-i=(min items.size items2.size-(i+1))+1 by lia,lex] at hR;refine A0 (he i h1 h2 prog w _ _ ?_);cases hy:e i with
   |true=>
    rw [hy,A7 rfl] at hR
    wp_walk
    exact⟨rfl,rfl,i+1,hrest,by lia,hR⟩
   |false=>
    rw [hy,A5 (by simp)] at hR;rw [A7 (show(!false)=true from rfl)];refine A0 (CB ?_);refine A0 (hf i h1 h2 hy prog w _ _ ?_)
    wp_walk
    exact⟨_,rfl,hR⟩
  case fin=>
   rintro⟨b1,b2⟩ s' ⟨hb',rfl,i,hz,hile,hR⟩;simp only at hb';subst hb';have hi:i=min items.size items2.size:=by
    rcases Bj i (items.toList.zip items2.toList).length with h'|h'
    .rw [Bg h'] at hz;cases hz
    .lia
   subst hi;rw [Nat.sub_self] at hR
   wp_walk
   exact⟨_,rfl,hR⟩
  case h=>
   exact⟨rfl,rfl,0,rfl,AM _,by simpa using h⟩
section
variable {A:Around}{s:Shared}
theorem LtAt.int_int (i:Int) (t:Tok) (j:Int) (u:Tok):LtAt A s (.int i t) (.int j u) (decide (i<j)):=fun prog w E Q h=>wpAny_lt_int h
theorem LtAt.lists {l b:Addr}{items items2:Array Value}{e f:Nat->Bool} (hl:s.heap.IsList l items) (hb:s.heap.IsList b items2) (hu:A.units<cLine)
  (he:∀j (h1:j<items.size) (h2:j<items2.size),EqAt A.in1 s items[j] items2[j] (e j)) (hf:∀j (h1:j<items.size) (h2:j<items2.size),e j=false->LtAt A.in1 s items[j] items2[j] (f j)):
  LtAt A s (.ref l) (.ref b) (lex e f items.size items2.size (min items.size items2.size) 0):=fun prog w E Q h=>by
 obtain⟨⟨cls,dd,data,sl⟩,ho,hc,n,hd⟩:=id hl;obtain⟨⟨cls2,dd2,data2,sl2⟩,ho2,hc2,n2,hd2⟩:=id hb;simp only at hc hd hc2 hd2;subst hc hd hc2 hd2;exact richCompare_meets_room (op:= .Lt) ⟨_,ho,rfl⟩ ⟨_,ho2,rfl⟩ F.slot_list_lt F.entry_list_lt (F.args_list_lt_2 _ _) (hA_ l b items items2 n n2 dd dd2 sl sl2 e f)
  ⟨ho,ho2,he,hf,show Value.bool (lex e f items.size items2.size (min items.size items2.size) 0)≠Value.notImplemented/\Q (.bool (lex e f items.size items2.size (min items.size items2.size) 0)) s from⟨(fun x=>nomatch x),h⟩⟩ hu
theorem LtAt.tuples {l b:Addr}{items items2:Array Value}{e f:Nat->Bool} (hl:s.heap.IsTuple l items) (hb:s.heap.IsTuple b items2) (hu:A.units<cLine)
  (he:∀j (h1:j<items.size) (h2:j<items2.size),EqAt A.in1 s items[j] items2[j] (e j)) (hf:∀j (h1:j<items.size) (h2:j<items2.size),e j=false->LtAt A.in1 s items[j] items2[j] (f j)):
  LtAt A s (.ref l) (.ref b) (lex e f items.size items2.size (min items.size items2.size) 0):=fun prog w E Q h=>by
 obtain⟨⟨cls,dd,data,sl⟩,ho,hc,n,hd⟩:=id hl;obtain⟨⟨cls2,dd2,data2,sl2⟩,ho2,hc2,n2,hd2⟩:=id hb;simp only at hc hd hc2 hd2;subst hc hd hc2 hd2;exact richCompare_meets_room (op:= .Lt) ⟨_,ho,rfl⟩ ⟨_,ho2,rfl⟩ F.slot_tuple_lt F.entry_tuple_lt (F.args_tuple_lt_2 _ _) (kD_ l b items items2 n n2 dd dd2 sl sl2 e f)
  ⟨ho,ho2,he,hf,show Value.bool (lex e f items.size items2.size (min items.size items2.size) 0)≠Value.notImplemented/\Q (.bool (lex e f items.size items2.size (min items.size items2.size) 0)) s from⟨(fun x=>nomatch x),h⟩⟩ hu
theorem key_lists {prog:Program}{w:World}{E:Value->Shared->Prop}{l b:Addr}{items items2:Array Value}{e f:Nat->Bool}{Q:Bool->Shared->Prop} (hl:s.heap.IsList l items) (hb:s.heap.IsList b items2) (hu:A.units<cLine)
  (he:∀j (h1:j<items.size) (h2:j<items2.size),EqAt A.in1 s items[j] items2[j] (e j)) (hf:∀j (h1:j<items.size) (h2:j<items2.size),e j=false->LtAt A.in1 s items[j] items2[j] (f j))
  (h:Q (lex e f items.size items2.size (min items.size items2.size) 0) s):wpAny (model prog w) A (PyProof.Rows.keyLt' PyProof.Rows.oneType' (.ref l) (.ref b)) Q E s:=by
 rw [PyProof.Rows.keyLt'_oneType,PyProof.Rows.oneLt'_eq];simp only [C2];refine A0 (wpAny_cRoomFor hu ?_);obtain⟨⟨cls,dd,data,sl⟩,ho,hc,n,hd⟩:=id hl;obtain⟨⟨cls2,dd2,data2,sl2⟩,ho2,hc2,n2,hd2⟩:=id hb;simp only at hc hd hc2 hd2;subst hc hd hc2 hd2;refine A0 (wpAny_callSpecialIfBound?_slot (T:="list") ⟨_,ho,rfl⟩ F.slot_list_lt (call_meets F.slot_list_lt ⟨_,ho,rfl⟩ F.entry_list_lt (F.args_list_lt_2 _ _) (hA_ l b items items2 n n2 dd dd2 sl sl2 e f) ⟨ho,ho2,he,hf, ?_⟩));exact Bh h
end
end PySem.SeqAt
namespace L2
open PySem PySem.Spec PyProof.Rows
inductive LtR (K:W.Frag) (H:Hp):Nat->V->V->Bool->Prop where
 |int (d:Nat) (i j:Int):LtR K H d (.int i) (.int j) (decide (i<j))
 |lists {d:Nat}{a b:Addr}{xs ys:List V} (es fs:Nat->Bool) (h1:SqL K H a xs) (h2:SqL K H b ys) (he:∀(j:Nat) x y,xs[j]? =some x->ys[j]? =some y->EqR K H d x y (es j)) (hf:∀(j:Nat) x y,xs[j]? =some x->ys[j]? =some y->es j=false->LtR K H d x y (fs j)):
  LtR K H (d+1) (.ref a) (.ref b) (SeqAt.lex es fs xs.length ys.length (min xs.length ys.length) 0)
 |tuples {d:Nat}{a b:Addr}{xs ys:List V} (es fs:Nat->Bool) (h1:SqT K H a xs) (h2:SqT K H b ys) (he:∀(j:Nat) x y,xs[j]? =some x->ys[j]? =some y->EqR K H d x y (es j)) (hf:∀(j:Nat) x y,xs[j]? =some x->ys[j]? =some y->es j=false->LtR K H d x y (fs j)):
  LtR K H (d+1) (.ref a) (.ref b) (SeqAt.lex es fs xs.length ys.length (min xs.length ys.length) 0)
section
variable {X:Cx}{pins:List (Addr×Obj)}{σ:St}{H:Hp}{s:Shared}
theorem cm_ {xs:List V}{is:List Value}{j:Nat} (r:aV_ xs is) (q:j<is.toArray.size):∃x,xs[j]? =some x/\aZ_ x is.toArray[j]:=by
 have l:=r.length;have q':j<is.length:=by simpa using q
 have hx:xs[j]? =some xs[j]:=A3 (by lia);obtain⟨u,e,ru⟩:=r.get hx;refine⟨_,hx, ?_⟩;have g:is.toArray[j]=u:=by
  rw [A3 q'] at e;simpa using Option.some.inj e
 rw [g];exact ru
theorem LtR.at_ (I:Inv X pins σ H s) {d:Nat}{x y:V}{b:Bool} (h:LtR X.K H d x y b):∀{A:Around}{u v:Value},A.units+d<cLine->aZ_ x u->aZ_ y v->SeqAt.LtAt A s u v b:=by
 induction h with
 |int d i j=>
  intro A u v hu ru rv;obtain⟨t,rfl⟩:=ru;obtain⟨t',rfl⟩:=rv;exact SeqAt.LtAt.int_int i t j t'
 | @lists d a b xs ys es fs h1 h2 he hf ih=>
  intro A u v hu ru rv;obtain rfl:u=Value.ref a:=ru;obtain rfl:v=Value.ref b:=rv;obtain⟨is,r1,p1,z1⟩:=I.list h1;obtain⟨js,r2,p2,z2⟩:=I.list h2;have l1:xs.length=is.toArray.size:=by have:=r1.length;simpa using this
  have l2:ys.length=js.toArray.size:=by have:=r2.length;simpa using this
  rw [l1,l2];refine SeqAt.LtAt.lists p1.isList p2.isList (by lia) (fun j q1 q2=> ?_) (fun j q1 q2 z=> ?_)
  .obtain⟨x,hx,rx⟩:=cm_ r1 q1;obtain⟨y,hy,ry⟩:=cm_ r2 q2;exact((he j _ _ hx hy).at_ I (by rw [aI_];lia) rx ry).2.2
  .obtain⟨x,hx,rx⟩:=cm_ r1 q1;obtain⟨y,hy,ry⟩:=cm_ r2 q2;exact ih j _ _ hx hy z (by rw [aI_];lia) rx ry
 | @tuples d a b xs ys es fs h1 h2 he hf ih=>
  intro A u v hu ru rv;obtain rfl:u=Value.ref a:=ru;obtain rfl:v=Value.ref b:=rv;obtain⟨is,r1,p1,z1⟩:=I.tuple h1;obtain⟨js,r2,p2,z2⟩:=I.tuple h2;have l1:xs.length=is.toArray.size:=by have:=r1.length;simpa using this
  have l2:ys.length=js.toArray.size:=by have:=r2.length;simpa using this
  rw [l1,l2];refine SeqAt.LtAt.tuples (show s.heap.IsTuple a is.toArray from p1) (show s.heap.IsTuple b js.toArray from p2) (by lia) (fun j q1 q2=> ?_) (fun j q1 q2 z=> ?_)
  .obtain⟨x,hx,rx⟩:=cm_ r1 q1;obtain⟨y,hy,ry⟩:=cm_ r2 q2;exact((he j _ _ hx hy).at_ I (by rw [aI_];lia) rx ry).2.2
  .obtain⟨x,hx,rx⟩:=cm_ r1 q1;obtain⟨y,hy,ry⟩:=cm_ r2 q2;exact ih j _ _ hx hy z (by rw [aI_];lia) rx ry
theorem LtR.key (I:Inv X pins σ H s) {d:Nat}{a b:Addr}{xs ys:List V}{es fs:Nat->Bool} (h1:SqL X.K H a xs) (h2:SqL X.K H b ys) (he:∀(j:Nat) x y,xs[j]? =some x->ys[j]? =some y->EqR X.K H d x y (es j)) (hf:∀(j:Nat) x y,xs[j]? =some x->ys[j]? =some y->es j=false->LtR X.K H d x y (fs j))
  {A:Around} (hu:A.units+(d+1)<cLine) {prog:Program}{w:World}{E:Value->Shared->Prop}{Q:Bool->Shared->Prop} (q:Q (SeqAt.lex es fs xs.length ys.length (min xs.length ys.length) 0) s):
  wpAny (model prog w) A (keyLt' oneType' (.ref a) (.ref b)) Q E s:=by
 obtain⟨is,r1,p1,z1⟩:=I.list h1;obtain⟨js,r2,p2,z2⟩:=I.list h2;have l1:xs.length=is.toArray.size:=by have:=r1.length;simpa using this
 have l2:ys.length=js.toArray.size:=by have:=r2.length;simpa using this
 rw [l1,l2] at q;refine SeqAt.key_lists p1.isList p2.isList (by lia) (fun j q1 q2=> ?_) (fun j q1 q2 z=> ?_) q
 .obtain⟨x,hx,rx⟩:=cm_ r1 q1;obtain⟨y,hy,ry⟩:=cm_ r2 q2;exact((he j _ _ hx hy).at_ I (by rw [aI_];lia) rx ry).2.2
 .obtain⟨x,hx,rx⟩:=cm_ r1 q1;obtain⟨y,hy,ry⟩:=cm_ r2 q2;exact(hf j _ _ hx hy z).at_ I (by rw [aI_];lia) rx ry
end
end L2
namespace L2
open PySem PySem.Spec PyProof.Rows
def si_ (ns:List Int):Int:=ns.getD (argBest (fun i j=>decide (ns.getD i 0<ns.getD j 0)) (ns.length-1)) 0
section
variable {X:Cx}
theorem jN_ {ys:Array (Int×Tok)}{ns:List Int} (h:ys.toList.map (·.1)=ns) (i:Nat):numAt ys i=ns.getD i 0:=by
 subst h;unfold numAt;rw [List.getD,A9,Bu]
theorem nl_ (hc:X.calm=true):bQ_ X (.builtin "min") (fun xs H Q=>∃(p:Addr) (ns:List Int),xs=[.ref p]/\SqL X.K H p (ns.map V.int)/\0<ns.length/\Q (.int (si_ ns)) H):=by
 intro pins s σ H xs us Q I r h;obtain⟨p,ns,rfl,hq,h0,q⟩:=h;obtain⟨u,rfl,rx⟩:=ek_ r;cases rx;obtain⟨its,r',pl,hz⟩:=I.list hq;have hi:IntsAre its ns:=ea_ r';obtain⟨ys,e⟩:=hi.allInts.items;have n1:=hi.numsOf;rw [show its=its.toArray.toList from rfl,e,nums_intItems] at n1;have hsz:ys.size=ns.length:=by rw [<-n1];simp
 have hl:=pl.isList;rw [e] at hl;refine min_intList (I.ok.hd hc) hl (by lia) fun v h' tk hv hk=> ?_;obtain⟨t,rfl⟩:=intItems_at hv;refine⟨.int (si_ ns),H,I.kept hk,⟨t, ?_⟩,q⟩;unfold si_;rw [jN_ n1,hsz];simp only [jN_ n1]
theorem qE_ {s:Shared}{h':Heap}{o:Obj} (hk:∀b x,b∉[s.heap.objs.size]->(s.heap.push o).get? b=some x->h'.get? b=some x):∀b x,s.heap.get? b=some x->h'.get? b=some x:=
 fun b x e=>hk b x (fun hm=>by rw [AS.mp hm] at e;exact Bk _ (AI e)) (A6 _ e)
theorem oP_ (hc:X.calm=true):bQ_ X (.builtin "any") (fun xs H Q=>∃(p:Addr) (bs:List Bool),xs=[.ref p]/\SqL X.K H p (bs.map V.bl)/\Q (.bl (bs.any id)) H):=by
 intro pins s σ H xs us Q I r h;obtain⟨p,bs,rfl,hq,q⟩:=h;obtain⟨u,rfl,rx⟩:=ek_ r;cases rx;obtain⟨its,r',pl,hz⟩:=I.list hq;have hl:=pl.isList;have hlt:p<s.heap.objs.size:=by obtain⟨_,e,_⟩:=hl;exact AI e
 have hln:its.length=bs.length:=by have:=r'.length;simpa using this.symm
 refine call_any_walk (wpAny_pyIter_list hl ?_);refine⟨s.heap.objs.size,[s.heap.objs.size,p],[s.heap.objs.size],its.toArray.size,_,_,fun i=>(bs[i]?).getD false,rfl,Walks.list (A:=X.A.in1) (I.ok.hd hc) _ p (AL hlt) its.toArray,
  ⟨⟨_,AF _ rfl,rfl,rfl⟩,hl.push _⟩,fun i v s' Q' E' hP hQ=> ?_,fun h' tk hk=> ?_⟩
 .have hv:its[i]? =some v:=by simpa using hP
  have hib:i<bs.length:=by rw [<-hln];exact(AD.mp hv).1
  obtain⟨u,hu,ru⟩:=r'.get (show(bs.map V.bl)[i]? =some (.bl bs[i]) by rw [A9,A3 hib];rfl);rw [hv] at hu;cases hu;obtain rfl:v=Value.bool bs[i]:=ru;simp only [A3 hib,Option.getD_some] at hQ;exact Bh hQ
 .refine⟨.bl (bs.any id),H,I.kept (qE_ hk), ?_,q⟩;show Value.bool _=Value.bool _;rw [AE,hln,PyProof.Rows.LSm.range_any]
def ipM:TIp:=fun x y H Q=>∃i j,x= .int i/\y= .int j/\tj_ i j/\Q (.int (i*j)) H
theorem jb_:PIp X .Mult ipM:=by
 intro pins s σ H x y v u Q I r1 r2 h;obtain⟨i,j,e1,e2,c,q⟩:=h;subst e1;subst e2;obtain⟨t,rfl⟩:=r1;obtain⟨t',rfl⟩:=r2;exact imul_int ⟨.int _,H,I.tok _,⟨_,rfl⟩,q⟩ c.ok
end
end L2
namespace L2
open PySem PySem.Spec PyProof.Rows
section
variable {X:Cx}{a b:Expr}{ta:TA}{p1 p2 p3 pos:Pos}
end
end L2
namespace L2
open PySem PySem.Spec PyProof.Rows
def tI (xs:List Int):D:= .t (xs.map .i)
theorem ey_ {H:Hp}:∀{xs:List Int}{vs:List V},Iss H (xs.map .i) vs->vs=xs.map V.int
 |[],vs,h=>h
 |x::xs,vs,h=>by
  obtain⟨u,us,rfl,h1,h2⟩:=h;rw [do_ h1,ey_ h2];rfl
theorem gH_ {H:Hp}:∀(xs:List Int),Iss H (xs.map .i) (xs.map V.int)
 |[]=>rfl
 |x::xs=>⟨_,_,rfl,e4_,gH_ xs⟩
theorem bS_ {H:Hp}{xs:List Int}{v:V} (h:Is H (tI xs) v):∃a,v= .ref a/\H a=some (.tup (xs.map V.int)):=by
 obtain⟨a,vs,rfl,ha,hi⟩:=hs_ h;rw [ey_ hi] at ha;exact⟨a,rfl,ha⟩
theorem e3_ {H:Hp}{xs:List Int}{a:Addr} (h:H a=some (.tup (xs.map V.int))):Is H (tI xs) (.ref a):=gX_ h (gH_ xs)
end L2
namespace L2
open PySem PySem.Spec PyProof.Rows PySem.W
section
variable {n:Nat}
def Ord (n:Nat) (p:Array Nat):Prop:=p.Perm (List.range n).toArray
theorem Ord.size {p:Array Nat} (h:Ord n p):p.size=n:=by
 have:=(CO.mp h).length_eq;simpa using this
theorem Ord.lt {p:Array Nat} (h:Ord n p) {i:Nat} (hi:i∈p.toList):i<n:=by
 have:=(CO.mp h).mem_iff.mp hi;simpa using this
theorem Ord.bubble {p:Array Nat} (h:Ord n p) (i j:Nat):Ord n (PyProof.Rows.bubble p i j):=(bubble_perm p i j).trans h
theorem Ord.kas {p:Array Nat} (h:Ord n p) (i j:Nat):Ord n (kas_rev p i j):=(mirror_perm p i j _).trans h
theorem Ord.getD {p:Array Nat} (h:Ord n p) (hn:0<n) (i:Nat):p.getD i 0<n:=by
 by_cases hi:i<p.size
 .have e:p.getD i 0=p[i]:=by simp [Array.getD,hi]
  rw [e];exact h.lt (by simp)
 .have e:p.getD i 0=0:=by simp [Array.getD,hi]
  rw [e];exact hn
def a7_ (n:Nat) {α:Type} (R:α->Prop):KasT α->Prop
 | .ret a=>R a
 | .ask i j k=>i<n/\j<n/\∀b,a7_ n R (k b)
theorem a7_.bind {α β:Type}{R:α->Prop}{R':β->Prop}{f:α->KasT β} (hf:∀a,R a->a7_ n R' (f a)):∀{t:KasT α},a7_ n R t->a7_ n R' (t.bind f)
 | .ret a,h=>hf a h
 | .ask i j k,h=>⟨h.1,h.2.1,fun b=>a7_.bind hf (h.2.2 b)⟩
variable (hn:0<n)
include hn
theorem mv_ {p:Array Nat} (h:Ord n p):∀f m,a7_ n (fun _=>True) (kas_asc p f m)
 |0,m=>trivial
 |f+1,m=>⟨h.getD hn _,h.getD hn _,fun b=>by
  cases b with
  |true=>exact trivial
  |false=>exact mv_ h f (m+1)⟩
theorem go_:∀(f:Nat) (p:Array Nat) (m q:Nat),Ord n p->a7_ n (fun r=>Ord n r.1) (kas_desc f p m q)
 |0,p,m,q,h=>h
 |f+1,p,m,q,h=>⟨h.getD hn _,h.getD hn _,fun b=>by
  cases b with
  |true=>
   show a7_ n _ (if q>0 then kas_desc f (kas_rev p (m-(q+1)) m) (m+1) 0 else kas_desc f p (m+1) 0);by_cases hq:q>0
   .rw [A7 hq];exact go_ f _ _ _ (h.kas _ _)
   .rw [A5 hq];exact go_ f _ _ _ h
  |false=>
   refine(show a7_ n _ (KasT.ask (p.getD (m-1) 0) (p.getD m 0) fun d=>if d=true then KasT.ret (p,m,q) else kas_desc f p (m+1) (q+1)) from⟨h.getD hn _,h.getD hn _,fun b=> ?_⟩);cases b with
   |true=>exact h
   |false=>exact go_ f _ _ _ h⟩
theorem mt_ {p:Array Nat} (h:Ord n p) (m k:Nat):a7_ n (fun r=>Ord n r.2) (kas_tail3 m k p):=by
 unfold kas_tail3;refine a7_.bind (fun a _=> ?_) (mv_ hn (h.kas 0 m) _ _);exact h.kas 0 m
theorem mu_ {p:Array Nat} (h:Ord n p) (m k:Nat):a7_ n (fun r=>Ord n r.2) (kas_descPart m k p):=by
 refine(go_ hn _ _ _ _ h).bind fun r hr=> ?_;by_cases hq:r.2.2>0
 .rw [A7 hq];exact mt_ hn (hr.kas _ _) _ _
 .rw [A5 hq];exact mt_ hn hr _ _
theorem on_ {p:Array Nat} (h:Ord n p) (k:Nat):a7_ n (fun r=>Ord n r.2) (kas_count k p):=by
 refine(mv_ hn h _ _).bind fun m _=> ?_;by_cases h1:(m==k)=true
 .rw [A7 h1];exact h
 .rw [A5 h1];by_cases h2:m>1
  .rw [A7 h2];refine⟨h.getD hn _,h.getD hn _,fun b=> ?_⟩;cases b with
   |true=>exact h
   |false=>exact mu_ hn (h.kas _ _) _ _
  .rw [A5 h2];exact mu_ hn h _ _
theorem gn_ {p:Array Nat} (h:Ord n p) (k:Nat):∀f l r,a7_ n (fun _=>True) (kas_place p k f l r)
 |0,l,r=>trivial
 |f+1,l,r=>by
  unfold kas_place;by_cases h1:l>=r
  .rw [A7 h1];exact trivial
  .rw [A5 h1];refine⟨h.getD hn _,h.getD hn _,fun b=> ?_⟩;cases b with
   |true=>exact gn_ h k f _ _
   |false=>exact gn_ h k f _ _
theorem pf_:∀(f:Nat) (p:Array Nat) (k:Nat),Ord n p->a7_ n (Ord n) (kas_bin f p k)
 |0,p,k,h=>h
 |f+1,p,k,h=>(gn_ hn h k _ _ _).bind fun l _=>pf_ f _ _ (h.bubble _ _)
theorem qw_:a7_ n (Ord n) (kas_sort n):=by
 refine(on_ hn (show Ord n (List.range n).toArray from Array.Perm.refl _) n).bind fun r hr=> ?_;by_cases h:r.1<n
 .rw [A7 h];exact pf_ hn _ _ _ hr
 .rw [A5 h];exact hr
end
section
variable {prog:Program}{w:World}{A:Around}{E:Value->Shared->Prop}{s:Shared}
def fS_ (vs:List Value) (i:Nat):Keyed:=(vs.getD i .none,vs.getD i .none)
abbrev aK_ (h:Heap) (a:Addr) (vs:List Value):Heap:=((h.update a (Obj.mapSeq fun _=>(#[]:Array Value))).push (seqObj "tuple" vs.toArray 0)).push (seqObj "list" #[] 0)
theorem iu_ (vs:List Value):(List.toArray (List.range vs.length)).map (fS_ vs)=vs.toArray.zip vs.toArray:=by
 refine Array.ext (by simp) fun i h1 h2=> ?_;have hi:i<vs.length:=by simpa using h1
 simp [fS_,hi]
abbrev bq_ (h:Heap) (vs:List Value):Heap:=aK_ (((h.push (seqObj "list" #[] 0)).update h.objs.size (Obj.mapSeq (· ++vs.toArray))).push (seqObj "list" vs.toArray 0)) (h.objs.size+1) vs
theorem ef_ {h:Heap}{vs:List Value}{b:Addr}{o:Obj} (hb:h.get? b=some o):(bq_ h vs).get? b=some o:=by
 have hlt:b<h.objs.size:=AI hb;have sz:(((h.push (seqObj "list" #[] 0)).update h.objs.size (Obj.mapSeq (· ++vs.toArray))).push (seqObj "list" vs.toArray 0)).objs.size=h.objs.size+2:=by rw [Bl,B1,Bl]
 have n0:b≠h.objs.size:=AL hlt;have n1:b≠h.objs.size+1:=AL (Ad hlt);have n2:b≠h.objs.size+2:=AL (Ad (Ad hlt));have n3:b≠h.objs.size+2+1:=AL (Ad (Ad (Ad hlt)));rw [B5 _ _ _ (by rw [Bl,B1,sz];exact n3),B5 _ _ _ (by rw [B1,sz];exact n2),DE _ _ _ _ n1,
  B5 _ _ _ (by rw [B1,Bl];exact n1),DE _ _ _ _ n0,B5 _ _ _ n0]
 exact hb
end
section
variable {prog:Program}{w:World}{A:Around}{E:Value->Shared->Prop}{s:Shared}
theorem jz_ {a:Addr}{vs:List Value}{n:Nat}{P:PySem.Fin->Shared->Prop} (ho:s.heap.get? a=some (seqObj "list" vs.toArray n)) (h2:vs.length<2)
  (h:P (.done (.ret .none)) {s with heap:=sortedHeap s.heap a vs vs.toArray}):wpAny (model prog w) A (Builtin.«list.sort» ⟨[.ref a],[]⟩) P E s:=by
 rw [list_sort_plain];have ha:a<s.heap.objs.size:=AI ho;refine A0 (listItems_at ho rfl ?_);refine A0 (Ca ho rfl ?_ (by rw [AE,Aw];lia) (AM _));obtain⟨e1,ho1⟩:∃e1,(s.heap.update a (Obj.mapSeq fun _=>(#[]:Array Value))).get? a=some (seqObj "list" #[] e1):=⟨_,CW ho (fun _=> #[])⟩;refine A0 (seqEpoch_at ho1 rfl ?_);refine A0 (wpAny_newTuple ?_ (by show vs.length<=_;rw [Aw];lia));refine A0 (Ck ?_ (AM _));refine Ar ?_;have ho6:(aK_ s.heap a vs).get? a=some (seqObj "list" #[] e1):=by
  rw [B5 _ _ _ (by rw [Bl,B1];exact AL (Ad ha)),B5 _ _ _ (by rw [B1];exact AL ha)];exact ho1
 show wpAny (model prog w) A _ P E {s with heap:=aK_ s.heap a vs};dsimp only;have hn2:vs.toArray.size<2:=by rw [AE];lia
 rw [A7 hn2,A7 hn2];refine A0 (A2 ?_);rw [StateT.run_pure];refine A0 (A2 ?_);dsimp only;have eo:(vs.toArray.zip vs.toArray).map (·.2)=vs.toArray:=by
  refine Array.ext (by simp) fun i h1 h2=> ?_;simp
 refine A0 (seqEpoch_at ho6 rfl ?_);rw [eo];refine A0 (Ca ho6 rfl ?_ (AM _) (by rw [AE,Aw];lia));simp only [Cm,AH,Am];exact A2 h
theorem fv_ {l:Addr}{vs:List Value}{Q:Value->Shared->Prop} (hl:s.heap.IsList l vs.toArray) (h2:vs.length<2)
  (h:Q (.ref (s.heap.objs.size+1)) {s with heap:=sortedAll s.heap vs vs.toArray}):wpAny (model prog w) A (call (.builtin "sorted") [.ref l]) Q E s:=by
 refine Ch kind_sorted plain_sorted entry_sorted (args_sorted1 _) ?_;unfold Builtin.«sorted»;refine A0 (m:=checkCount "sorted" 1 1 _) (A2 ?_);refine A0 (collect_list hl ?_ (by rw [Aw];lia));refine A0 (Ck ?_ (by rw [Aw];lia));have hsz:((s.heap.push (seqObj "list" #[] 0)).update s.heap.objs.size (Obj.mapSeq (· ++vs.toArray))).objs.size=s.heap.objs.size+1:=by
  rw [B1,Bl]
 have hoL:(((s.heap.push (seqObj "list" #[] 0)).update s.heap.objs.size (Obj.mapSeq (· ++vs.toArray))).push (seqObj "list" vs.toArray 0)).get? (s.heap.objs.size+1)=some (seqObj "list" vs.toArray 0):=by
  rw [<-hsz];exact AF _ rfl
 show wpAny _ _ _ _ _ {s with heap:=((s.heap.push (seqObj "list" #[] 0)).update s.heap.objs.size (Obj.mapSeq (· ++vs.toArray))).push (seqObj "list" vs.toArray 0)};rw [hsz];refine A0 (Ar (Ab DI ⟨_,hoL,rfl⟩ DH (jz_ (s:={s with heap:=((s.heap.push (seqObj "list" #[] 0)).update s.heap.objs.size (Obj.mapSeq (· ++vs.toArray))).push (seqObj "list" vs.toArray 0)}) hoL h2 ⟨_,rfl, ?_⟩) (DJ _)));exact A2 ⟨_,rfl,h⟩
end
section
variable {X:Cx}
theorem dp_ {rs:List V}{its:List Value} (r:aV_ rs its):∀(l:List Nat),(∀i∈l,i<rs.length)->aV_ (l.map fun i=>rs.getD i .non) (l.map fun i=>its.getD i .none)
 |[],_=> .nil
 |i::l,h=>by
  have hi:i<rs.length:=h i (by simp);have e:rs[i]? =some rs[i]:=A3 hi;obtain⟨u,hu,ru⟩:=r.get e;rw [AK,AK];refine .cons ?_ (dp_ r l fun j hj=>h j (by simp [hj]));rw [List.getD,List.getD,e,hu];exact ru
end
def ff_ (fin:Bool):List Int->List Int->Bool
 |x::xs,y::ys=>if x=y then ff_ fin xs ys else decide (x<y)
 |_,_=>fin
def ltI (xs ys:List Int):Bool:=ff_ (decide (xs.length<ys.length)) xs ys
section
variable {prog:Program}{w:World}{A:Around}{E:Value->Shared->Prop}{s:Shared}
theorem jW_ {fin:Bool}{Q:Bool->Shared->Prop}:∀{xs ys:List Int}{is js:List Value} (i:Nat),aV_ (xs.map V.int) is->aV_ (ys.map V.int) js->Q (ff_ fin xs ys) s->KatLex prog w A true fin Q (is.zip js) i s
 |[],ys,is,js,i,h1,h2,q=>by
  cases h1;rw [List.zip_nil_left];exact kat_nil (by cases ys<;>exact q)
 |x::xs,[],is,js,i,h1,h2,q=>by
  cases h2;rw [List.zip_nil_right];exact kat_nil q
 |x::xs,y::ys,is,js,i,h1,h2,q=>by
  cases h1 with
  |cons r1 h1=>
  cases h2 with
  |cons r2 h2=>
  obtain⟨t,rfl⟩:=r1;obtain⟨t',rfl⟩:=r2;rw [List.zip_cons_cons];refine kat_cons ?_;refine wpAny_eqBool_int ?_;unfold ff_ at q;by_cases e:x=y
  .rw [A7 e] at q;rw [show(x==y)=true by simp [e]];exact kat_yes (jW_ (i+1) h1 h2 q)
  .rw [A5 e] at q;rw [show(x==y)=false by simp [e]];refine kat_no ?_;cases hb:(true&&i==0) with
   |true=>exact oneLt_int q
   |false=>exact kat_one _ _ (SeqAt.LtAt.int_int x t y t' prog w _ _ q)
end
theorem jR_ (xss:List (List Int)):(List.range xss.length).map (fun i=>xss.getD i [])=xss:=by
 refine List.ext_getElem (by simp) fun i h1 h2=> ?_;simp [List.getD,h2]
theorem gG_ {H:Hp}{xss:List (List Int)}{rs:List V} (h:Iss H (xss.map tI) rs):∀(l:List Nat),(∀i∈l,i<xss.length)->Iss H ((l.map fun i=>xss.getD i []).map tI) (l.map fun i=>rs.getD i .non)
 |[],_=>rfl
 |i::l,hl=>by
  have hi:i<xss.length:=hl i (by simp);have hr:i<rs.length:=by rw [h.length,A1];exact hi
  refine⟨_,_,rfl, ?_,gG_ h l fun j hj=>hl j (by simp [hj])⟩;obtain⟨d,hd,h1⟩:=h.of_get (A3 hr);rw [A9,A3 hi] at hd;cases hd;show Is H (tI (xss.getD i [])) (rs.getD i .non);rw [A8,A8,A3 hi,A3 hr];exact h1
section
variable {X:Cx}{pins:List (Addr×Obj)}{σ:St}{H:Hp}{s:Shared}
theorem gE_ (I:Inv X pins σ H s):∀{xss:List (List Int)}{rs:List V}{its:List Value},Iss H (xss.map tI) rs->aV_ rs its->(∀xs∈xss,xs≠[])->∃fs:List Value,KatTups s.heap its fs/\fs.length=its.length/\∀f∈fs,∃z t,f=Value.int z t
 |[],rs,its,h,r,_=>by
  obtain rfl:rs=[]:=h;cases r;exact⟨[],KatTups.nil,rfl,fun _ h=>nomatch h⟩
 |xs::xss,rs,its,h,r,hne=>by
  obtain⟨u,us,rfl,h1,h2⟩:=h;cases r with
  |cons r1 r2=>
  rename_i v its;obtain⟨fs,k1,k2,k3⟩:=gE_ I h2 r2 fun ys hy=>hne ys (by simp [hy]);obtain⟨a,rfl,ha⟩:=bS_ h1;obtain rfl:v=Value.ref a:=r1;obtain⟨is,q1,q2,q3⟩:=I.tuple (SqT.of (K:=X.K) ha);obtain⟨o,ho,hc,n,hd⟩:=(show s.heap.IsTuple a is.toArray from q2)
  match xs,hne xs (by simp) with
  |x::xs',_=>
  cases q1 with
  |cons q0 q1=>
  obtain⟨t,rfl⟩:=q0;refine⟨.int x t::fs,KatTups.cons ho hc hd (by simp) k1,by simp [k2],fun f hf=> ?_⟩;rcases AJ.mp hf with rfl|hf
  .exact⟨_,_,rfl⟩
  .exact k3 f hf
theorem j2_ (I:Inv X pins σ H s) {a b:Addr}{xs ys:List Int} (h1:SqT X.K H a (xs.map V.int)) (h2:SqT X.K H b (ys.map V.int)) {A:Around}{prog:Program}{w:World}{E:Value->Shared->Prop}{Q:Bool->Shared->Prop} (q:Q (ltI xs ys) s):
  wpAny (model prog w) A (keyLt' (tuples' true) (.ref a) (.ref b)) Q E s:=by
 obtain⟨is,r1,p1,z1⟩:=I.tuple h1;obtain⟨js,r2,p2,z2⟩:=I.tuple h2;obtain⟨o1,ho1,hc1,n1,hd1⟩:=(show s.heap.IsTuple a is.toArray from p1);obtain⟨o2,ho2,hc2,n2,hd2⟩:=(show s.heap.IsTuple b js.toArray from p2);refine kat_lt ho1 hd1 ho2 hd2 ?_;have l1:is.toArray.size=xs.length:=by have:=r1.length;simp at this⊢;lia
 have l2:js.toArray.size=ys.length:=by have:=r2.length;simp at this⊢;lia
 rw [l1,l2];exact jW_ 0 r1 r2 q
end
end L2
namespace L2
open PySem PySem.Spec PyProof.Rows
def ow_ (v:Value) (k:Int):Bool:=match v with
 | .int i _=>decide (i=k)
 |_=>false
def gN_:List DictEntry->List (Int×Int)->Bool
 |[],[]=>true
 |e::es,p::kvs=>ow_ e.key p.1&&decide (e.hash=hashInt p.1)&&ow_ e.val p.2&&gN_ es kvs
 |_,_=>false
def sd_ (o:Obj) (kvs:List (Int×Int)):Bool:=match o.cls,o.dict,o.data with
 | .type c,none, .dict es _=>c=="dict"&&o.slots.isEmpty&&gN_ es.toList kvs
 |_,_,_=>false
def km_ (K:W.Frag) (a:Addr) (kvs:List (Int×Int)):Bool:=match K.lookup a with
 |some o=>sd_ o kvs
 |none=>false
theorem ka_ {v:Value}{k:Int} (h:ow_ v k=true):∃t,v= .int k t:=by
 unfold ow_ at h;split at h
 .rename_i i t;exact⟨t,by rw [B2 h]⟩
 .cases h
theorem fQ_ {e:DictEntry}{es:List DictEntry}{p:Int×Int}{kvs:List (Int×Int)} (h:gN_ (e::es) (p::kvs)=true):(∃t,e.key= .int p.1 t)/\e.hash=hashInt p.1/\(∃t,e.val= .int p.2 t)/\gN_ es kvs=true:=by
 unfold gN_ at h;rw [AN,AN,AN] at h;exact⟨ka_ h.1.1.1,B2 h.1.1.2,ka_ h.1.2,h.2⟩
theorem fO_:∀{es:List DictEntry}{kvs:List (Int×Int)},gN_ es kvs=true->∀e∈es,∃k,Value.isInt k e.key=true/\e.hash=hashInt k
 |[],_,_,e,he=>nomatch he
 |e::es,[],h,_,_=>by unfold gN_ at h;cases h
 |e::es,p::kvs,h,e',he=>by
  obtain⟨⟨t,h1⟩,h2,_,h4⟩:=fQ_ h;rcases AJ.mp he with rfl|he
  .exact⟨p.1,by rw [h1];simp [Value.isInt],h2⟩
  .exact fO_ h4 e' he
theorem fP_ {k v:Int}:∀{es:List DictEntry}{kvs:List (Int×Int)},gN_ es kvs=true->kvs.lookup k=some v->∃t,(es.find? fun e=>Value.isInt k e.key).map (·.val)=some (.int v t)
 |_,[],_,hv=>nomatch hv
 |[],p::kvs,h,_=>by unfold gN_ at h;cases h
 |e::es,p::kvs,h,hv=>by
  obtain⟨⟨t,h1⟩,h2,⟨u,h3⟩,h4⟩:=fQ_ h;rw [CA] at hv;rw [BO];by_cases q:k=p.1
  .have b:(k==p.1)=true:=by simp [q]
   rw [b] at hv;have hv':p.2=v:=Ae hv;have i:Value.isInt k e.key=true:=by rw [h1,q];simp [Value.isInt]
   rw [i];exact⟨u,by rw [<-hv',<-h3];rfl⟩
  .have b:(k==p.1)=false:=by simp [q]
   rw [b] at hv;have i:Value.isInt k e.key=false:=by rw [h1];simp [Value.isInt];exact fun z=>q z.symm
   rw [i];exact fP_ h4 hv
def rz_ (K:W.Frag) (td ty:TE):TE:=fun σ H Q=>td σ H fun x H1=>ty σ H1 fun y H2=>∃a kvs k v,x= .ref a/\km_ K a kvs=true/\y= .int k/\kvs.lookup k=some v/\Q (.int v) H2
theorem n7_ {X:Cx}{o i:Expr}{pos:Pos}{td ty:TE} (ho:PE X o td) (hi:PE X i ty) (hs:ti_ i):PE X (.Subscript o i pos) (rz_ X.K td ty):=by
 intro pins s σ H Q I h;refine iy_ PySem.F.slot_dict_getitem.lookup hs (thn (ho pins s σ H _ I h) fun u s1 ⟨x,H1,I1,rx,q1⟩=>thn (hi pins s1 σ H1 _ I1 q1) fun iv s2 ⟨y,H2,I2,ry,a,kvs,k,v,ex,hd,ey,hv,q2⟩=> ?_);subst ex ey;obtain rfl:u=Value.ref a:=rx;obtain⟨t,rfl⟩:=ry;unfold km_ at hd;split at hd
 .rename_i ob hob;have hg:=I2.kIn a ob hob;unfold sd_ at hd;split at hd
  .rename_i c es ep hc hdi hda;rw [AN,AN] at hd;obtain⟨⟨d1,d2⟩,d3⟩:=hd;have hc':ob.cls= .type "dict":=by rw [hc,eq_of_beq d1]
   obtain⟨t',ht⟩:=fP_ d3 hv;have mp:s2.heap.MapOf (intKind X.prog X.w) a (findBy Value.isInt es):=⟨ob,es,ep,hg,⟨hc',hdi,Array.isEmpty_iff.mp d2⟩,hda,fun e he=>fO_ d3 e (by simpa using he),fun _=>rfl⟩;refine⟨⟨ob,hg,hc'⟩,wpAny_getItem_of (knd:=intKind X.prog X.w) (k:=k) (by simp [intKind,Value.isInt]) mp (v:= .int v t') ?_ ⟨.int v,H2,I2.tok _,⟨_,rfl⟩,q2⟩⟩;show findBy Value.isInt es k=_;unfold findBy;obtain⟨l⟩:=es;simpa using ht
  .cases hd
 .cases hd
end L2
namespace L2
open PySem PySem.Spec PyProof.Rows
def uw_ (K:W.Frag) (H:Hp) (n:Nat) (xs:List V) (x:V) (es:Nat->Bool):Prop:=n<=8/\(∀(j:Nat) z,xs[j]? =some z->(∃a,z= .ref a)/\EqR K H n z x (es j))/\∀(i j:Nat) z,xs[i]? =some z->xs[j]? =some z->es i=es j
section
variable {X:Cx}{pins:List (Addr×Obj)}{σ:St}{H:Hp}{s:Shared}
open Classical in
noncomputable def hZ_ (its:List Value) (es:Nat->Bool) (u:Value):Bool:=decide (∃j:Nat,its[j]? =some u/\es j=true)
end
section
variable {X:Cx}
end
end L2
namespace L2
open PySem PySem.Spec PyProof.Rows PySem.W
def Ask (K:W.Frag) (H:Hp) (x y:V) (b:Bool):Prop:=∃(a1 a2:Addr) (xs ys:List V) (d:Nat) (es fs:Nat->Bool),x= .ref a1/\y= .ref a2/\SqL K H a1 xs/\SqL K H a2 ys/\d<=4/\
 (∀(j:Nat) x y,xs[j]? =some x->ys[j]? =some y->EqR K H d x y (es j))/\(∀(j:Nat) x y,xs[j]? =some x->ys[j]? =some y->es j=false->LtR K H d x y (fs j))/\b=SeqAt.lex es fs xs.length ys.length (min xs.length ys.length) 0
section
variable {X:Cx}
end
section
variable {K:W.Frag}{H:Hp}
end
end L2
namespace L2
open PySem PySem.Spec PyProof.Rows PyProof
section
variable {prog:Program}{w:World}{A:Around}{R:Result->Shared->Prop}{I:Addr}{fp wr:List Addr}{n:Nat}{P:Nat->Value->Prop}{St:Nat->Heap->Prop}{nm:Str}{dv:Value}
end
section
variable {prog:Program}{w:World}{A:Around}{E:Value->Shared->Prop}{s:Shared}
end
section
variable {X:Cx}{e e2:Expr}{p pos kpos:Pos}{ta tk:TA}
end
end L2
namespace L2
open PySem PySem.Spec PyProof.Rows PySem.W
def cp_ (c:Nat->Nat->Bool) {α:Type}:KasT α->α
 | .ret a=>a
 | .ask i j k=>cp_ c (k (c i j))
theorem b7_ {c:Nat->Nat->Bool}{α β:Type}{f:α->KasT β}:∀(t:KasT α),cp_ c (t.bind f)=cp_ c (f (cp_ c t))
 | .ret _=>rfl
 | .ask i j k=>b7_ (k (c i j))
structure Ordr (c:Nat->Nat->Bool):Prop where
 asym:∀a b,c a b=true->c b a=false
 tr:∀a b d,c b a=false->c d b=false->c d a=false
section
variable {c:Nat->Nat->Bool}
abbrev at0 (p:Array Nat) (i:Nat):Nat:=p.getD i 0
def Up (c:Nat->Nat->Bool) (p:Array Nat) (m:Nat):Prop:=∀i j,i<j->j<m->c (at0 p j) (at0 p i)=false
def Dn (c:Nat->Nat->Bool) (p:Array Nat) (m:Nat):Prop:=∀i j,i<j->j<m->c (at0 p i) (at0 p j)=false
theorem Up.more (O:Ordr c) {p:Array Nat}{m:Nat} (h:Up c p m) (hm:0<m) (e:c (at0 p m) (at0 p (m-1))=false):Up c p (m+1):=by
 intro i j hij hj;by_cases hjm:j<m
 .exact h i j hij hjm
 .obtain rfl:j=m:=by lia
  by_cases hi:i=j-1
  .subst hi;exact e
  .exact O.tr _ _ _ (h i (j-1) (by lia) (by lia)) e
theorem Dn.more (O:Ordr c) {p:Array Nat}{m:Nat} (h:Dn c p m) (hm:0<m) (e:c (at0 p (m-1)) (at0 p m)=false):Dn c p (m+1):=by
 intro i j hij hj;by_cases hjm:j<m
 .exact h i j hij hjm
 .obtain rfl:j=m:=by lia
  by_cases hi:i=j-1
  .subst hi;exact e
  .exact O.tr _ _ _ e (h i (j-1) (by lia) (by lia))
theorem gA_ (O:Ordr c) {p:Array Nat}:∀(f m:Nat),0<m->Up c p m->m<=cp_ c (kas_asc p f m)/\cp_ c (kas_asc p f m)<=m+f/\Up c p (cp_ c (kas_asc p f m))/\(cp_ c (kas_asc p f m)<m+f->c (at0 p (cp_ c (kas_asc p f m))) (at0 p (cp_ c (kas_asc p f m)-1))=true)
 |0,m,hm,h=>⟨AA _,AA _,h,fun z=>absurd z (Bk _)⟩
 |f+1,m,hm,h=>by
  unfold kas_asc cp_;cases e:c (p.getD m 0) (p.getD (m-1) 0) with
  |true=>
   dsimp only;rw [A7 rfl];exact⟨AA _,by show m<=_;lia,h,fun _=>e⟩
  |false=>
   dsimp only;rw [A5 (by decide)];obtain⟨h1,h2,h3,h4⟩:=gA_ O f (m+1) (by lia) (h.more O hm e);exact⟨by lia,by lia,h3,fun z=>h4 (by lia)⟩
theorem cX_ {p:Array Nat}{i j:Nat} (hj:j<=p.size) (k:Nat):at0 (kas_rev p i j) k=if i<=k/\k<j then at0 p (i+j-1-k) else at0 p k:=by
 have h:=getElem?_mirror_all (xs:=p) (i:=i) hj k;have e:∀q:Array Nat,∀k,at0 q k=(q[k]?).getD 0:=fun q k=>by simp [at0,Array.getD];split<;>simp [*]
 rw [e,e,e];unfold kas_rev;rw [h];split<;>rfl
theorem ce_ (p:Array Nat) (i j:Nat):(kas_rev p i j).size=p.size:=mirror_size _ _ _ _
theorem Dn.rev_all {p:Array Nat}{m:Nat} (h:Dn c p m) (hm:m<=p.size):Up c (kas_rev p 0 m) m:=by
 intro i j hij hj;rw [cX_ hm,cX_ hm,A7 ⟨by lia,hj⟩,A7 ⟨by lia,by lia⟩];exact h _ _ (by lia) (by lia)
theorem Up.rev_all {p:Array Nat}{m:Nat} (h:Up c p m) (hm:m<=p.size):Dn c (kas_rev p 0 m) m:=by
 intro i j hij hj;rw [cX_ hm,cX_ hm,A7 ⟨by lia,by lia⟩,A7 ⟨by lia,hj⟩];exact h _ _ (by lia) (by lia)
theorem Dn.rev_blk {p:Array Nat}{m q:Nat} (h:Dn c p m) (hm:m<=p.size) (hq:q+1<=m) (hb:∀i j,m-(q+1)<=i->i<m->m-(q+1)<=j->j<m->c (at0 p i) (at0 p j)=false):Dn c (kas_rev p (m-(q+1)) m) m:=by
 intro i j hij hj;rw [cX_ hm,cX_ hm];by_cases h1:m-(q+1)<=i
 .rw [A7 ⟨h1,by lia⟩,A7 ⟨by lia,hj⟩];exact hb _ _ (by lia) (by lia) (by lia) (by lia)
 .rw [A5 (by lia)];by_cases h2:m-(q+1)<=j
  .rw [A7 ⟨h2,hj⟩];exact h _ _ (by lia) (by lia)
  .rw [A5 (by lia)];exact h _ _ hij hj
def Blk (c:Nat->Nat->Bool) (p:Array Nat) (m q:Nat):Prop:=q+1<=m/\∀i j,m-(q+1)<=i->i<m->m-(q+1)<=j->j<m->c (at0 p i) (at0 p j)=false
theorem dF_ (O:Ordr c):∀(f:Nat) (p:Array Nat) (m q:Nat),m+f<=p.size->0<m->Dn c p m->Blk c p m q->∀r,r=cp_ c (kas_desc f p m q)->r.1.size=p.size/\m<=r.2.1/\r.2.1<=m+f/\Dn c r.1 r.2.1/\Blk c r.1 r.2.1 r.2.2
 |0,p,m,q,_,_,hd,hb,r,e=>by
  subst e;exact⟨rfl,AA _,AA _,hd,hb⟩
 |f+1,p,m,q,hs,hm,hd,hb,r,e=>by
  unfold kas_desc cp_ at e;cases e1:c (p.getD m 0) (p.getD (m-1) 0) with
  |true=>
   rw [e1] at e;dsimp only at e;rw [A7 rfl] at e;have e2:=O.asym _ _ e1;by_cases hq:q>0
   .rw [A7 hq] at e;have hd2:=hd.rev_blk (by lia) hb.1 hb.2;have at_m:at0 (kas_rev p (m-(q+1)) m) m=at0 p m:=by rw [cX_ (by lia),A5 (by lia)]
    have at_m1:at0 (kas_rev p (m-(q+1)) m) (m-1)=at0 p (m-(q+1)+m-1-(m-1)):=by rw [cX_ (by lia),A7 ⟨by have:=hb.1;lia,by lia⟩]
    have e3:c (at0 (kas_rev p (m-(q+1)) m) (m-1)) (at0 (kas_rev p (m-(q+1)) m) m)=false:=by
     rw [at_m,at_m1];have b1:=hb.1;exact O.tr _ _ _ e2 (hb.2 _ (m-1) (by lia) (by lia) (by lia) (by lia))
    have hd3:=hd2.more O hm e3;have hb3:Blk c (kas_rev p (m-(q+1)) m) (m+1) 0:=⟨by lia,fun i j h1 h2 h3 h4=>by
     obtain rfl:i=m:=by lia
     obtain rfl:j=i:=by lia
     cases h:c (at0 (kas_rev p (j-(q+1)) j) j) (at0 (kas_rev p (j-(q+1)) j) j) with
     |false=>rfl
     |true=>have:=O.asym _ _ h;rw [h] at this;cases this⟩
    obtain⟨r1,r2,r3,r4,r5⟩:=dF_ O f _ (m+1) 0 (by rw [ce_];lia) (by lia) hd3 hb3 r e;exact⟨by rw [r1,ce_],by lia,by lia,r4,r5⟩
   .rw [A5 hq] at e;have hd3:=hd.more O hm e2;have hb3:Blk c p (m+1) 0:=⟨by lia,fun i j h1 h2 h3 h4=>by
     obtain rfl:i=m:=by lia
     obtain rfl:j=i:=by lia
     cases h:c (at0 p j) (at0 p j) with
     |false=>rfl
     |true=>have:=O.asym _ _ h;rw [h] at this;cases this⟩
    obtain⟨r1,r2,r3,r4,r5⟩:=dF_ O f _ (m+1) 0 (by lia) (by lia) hd3 hb3 r e;exact⟨r1,by lia,by lia,r4,r5⟩
  |false=>
   rw [e1] at e;dsimp only at e;rw [A5 (by decide)] at e;unfold cp_ at e;cases e2:c (p.getD (m-1) 0) (p.getD m 0) with
   |true=>
    rw [e2] at e;dsimp only at e;rw [A7 rfl] at e;subst e;exact⟨rfl,AA _,by show m<=_;lia,hd,hb⟩
   |false=>
    rw [e2] at e;dsimp only at e;rw [A5 (by decide)] at e;have hd3:=hd.more O hm e2;have b1:=hb.1;have hb3:Blk c p (m+1) (q+1):=⟨by lia,fun i j h1 h2 h3 h4=>by
     by_cases hi:i=m
     .by_cases hj:j=m
      .subst hi;subst hj;cases h:c (at0 p j) (at0 p j) with
       |false=>rfl
       |true=>have:=O.asym _ _ h;rw [h] at this;cases this
      .subst hi;exact O.tr _ _ _ (hb.2 _ _ (by lia) (by lia) (by lia) (by lia)) e1
     .by_cases hj:j=m
      .subst hj;exact O.tr _ _ _ e2 (hb.2 _ _ (by lia) (by lia) (by lia) (by lia))
      .exact hb.2 _ _ (by lia) (by lia) (by lia) (by lia)⟩
    obtain⟨r1,r2,r3,r4,r5⟩:=dF_ O f _ (m+1) (q+1) (by lia) (by lia) hd3 hb3 r e;exact⟨r1,by lia,by lia,r4,r5⟩
theorem hE_ (O:Ordr c) {p:Array Nat}{m n:Nat} (hn:n<=p.size) (hm:m<=n) (h0:0<m) (hd:Dn c p m):∀r,r=cp_ c (kas_tail3 m n p)->r.2.size=p.size/\0<r.1/\r.1<=n/\Up c r.2 r.1:=by
 intro r e;unfold kas_tail3 at e;rw [b7_] at e;subst e;obtain⟨h1,h2,h3,_⟩:=gA_ O (n-m) m h0 (hd.rev_all (by lia));exact⟨ce_ _ _ _,by show 0<cp_ c _;lia,by show cp_ c _<=n;lia,h3⟩
theorem hG_ (O:Ordr c) {p:Array Nat}{m n:Nat} (hn:n<=p.size) (hm:m<n) (h0:0<m) (hd:Dn c p m) (e:c (at0 p m) (at0 p (m-1))=true):∀r,r=cp_ c (kas_descPart m n p)->r.2.size=p.size/\0<r.1/\r.1<=n/\Up c r.2 r.1:=by
 intro r er;unfold kas_descPart at er;rw [b7_] at er;have hd1:=hd.more O h0 (O.asym _ _ e);have hb1:Blk c p (m+1) 0:=⟨by lia,fun i j h1 h2 h3 h4=>by
  obtain rfl:i=m:=by lia
  obtain rfl:j=i:=by lia
  cases h:c (at0 p j) (at0 p j) with
  |false=>rfl
  |true=>have:=O.asym _ _ h;rw [h] at this;cases this⟩
 obtain⟨r1,r2,r3,r4,r5⟩:=dF_ O (n-(m+1)) p (m+1) 0 (by lia) (by lia) hd1 hb1 _ rfl;generalize cp_ c (kas_desc (n-(m+1)) p (m+1) 0)=d at*
 split at er
 .obtain⟨t1,t2,t3,t4⟩:=hE_ O (p:=kas_rev d.1 (d.2.1-(d.2.2+1)) d.2.1) (m:=d.2.1) (n:=n) (by rw [ce_];lia) (by lia) (by lia) (r4.rev_blk (by lia) r5.1 r5.2) r er;exact⟨by rw [t1,ce_,r1],t2,t3,t4⟩
 .obtain⟨t1,t2,t3,t4⟩:=hE_ O (p:=d.1) (m:=d.2.1) (n:=n) (by lia) (by lia) (by lia) r4 r er;exact⟨by rw [t1,r1],t2,t3,t4⟩
theorem kZ_ (O:Ordr c) {p:Array Nat}{n:Nat} (hn:n<=p.size) (h0:0<n):∀r,r=cp_ c (kas_count n p)->r.2.size=p.size/\0<r.1/\r.1<=n/\Up c r.2 r.1:=by
 intro r er;unfold kas_count at er;rw [b7_] at er;obtain⟨h1,h2,h3,h4⟩:=gA_ O (p:=p) (n-1) 1 (by decide) (fun i j a b=>absurd b (by lia));generalize cp_ c (kas_asc p (n-1) 1)=m at*
 by_cases hm:m=n
 .subst hm;rw [A7 (by simp)] at er;subst er;exact⟨rfl,h0,AA _,h3⟩
 .rw [A5 (by simp [hm])] at er;have st:=h4 (by lia);by_cases h5:m>1
  .rw [A7 h5] at er;unfold cp_ at er;cases e1:c (p.getD 0 0) (p.getD (m-1) 0) with
   |true=>
    rw [e1] at er;dsimp only at er;rw [A7 rfl] at er;subst er;exact⟨rfl,by show 0<m;lia,by show m<=n;lia,h3⟩
   |false=>
    rw [e1] at er;dsimp only at er;rw [A5 (by decide)] at er;have hd:=h3.rev_all (by lia:m<=p.size);obtain⟨t1,t2,t3,t4⟩:=hG_ O (p:=kas_rev p 0 m) (m:=m) (n:=n) (by rw [ce_];exact hn) (by lia) (by lia) hd (by
     rw [cX_ (by lia),cX_ (by lia),A5 (by lia),A7 ⟨by lia,by lia⟩,show 0+m-1-(m-1)=0 by lia];cases h:c (at0 p m) (at0 p 0) with
     |true=>rfl
     |false=>have:=O.tr _ _ _ e1 h;rw [st] at this;cases this) r er
    exact⟨by rw [t1,ce_],t2,t3,t4⟩
  .rw [A5 h5] at er;obtain rfl:m=1:=by lia
   exact hG_ O hn (by lia) (by decide) (fun i j a b=>absurd b (by lia)) st r er
theorem d7_ (O:Ordr c) {p:Array Nat}{k:Nat} (hu:Up c p k):∀(f l r:Nat),r-l<=f->l<=r->r<=k->(∀i,i<l->c (at0 p k) (at0 p i)=false)->(∀i,r<=i->i<k->c (at0 p k) (at0 p i)=true)->
  cp_ c (kas_place p k f l r)<=k/\(∀i,i<cp_ c (kas_place p k f l r)->c (at0 p k) (at0 p i)=false)/\(∀i,cp_ c (kas_place p k f l r)<=i->i<k->c (at0 p k) (at0 p i)=true)
 |0,l,r,hf,hl,hr,h1,h2=>by
  obtain rfl:l=r:=by lia
  exact⟨hr,h1,h2⟩
 |f+1,l,r,hf,hl,hr,h1,h2=>by
  unfold kas_place;by_cases h:l>=r
  .rw [A7 h];obtain rfl:l=r:=by lia
   exact⟨hr,h1,h2⟩
  .rw [A5 h];unfold cp_;cases e:c (p.getD k 0) (p.getD ((l+r)/2) 0) with
   |true=>
    dsimp only;rw [A7 rfl];refine d7_ O hu f l ((l+r)/2) (by lia) (by lia) (by lia) h1 fun i a b=> ?_;by_cases hi:i=(l+r)/2
    .subst hi;exact e
    .cases q:c (at0 p k) (at0 p i) with
     |true=>rfl
     |false=>have:=O.tr _ _ _ (hu ((l+r)/2) i (by lia) b) q;rw [e] at this;cases this
   |false=>
    dsimp only;rw [A5 (by decide)];refine d7_ O hu f ((l+r)/2+1) r (by lia) (by lia) hr (fun i a=> ?_) h2;by_cases hi:i=(l+r)/2
    .subst hi;exact e
    .exact O.tr _ _ _ (hu i ((l+r)/2) (by lia) (by lia)) e
theorem pC_ {p:Array Nat}{k d:Nat} (hk:k<p.size) (hd:d<=k) (i:Nat):at0 (bubble p k d) i=if i=k-d then at0 p k else if k-d<i/\i<=k then at0 p (i-1) else at0 p i:=by
 have h:=getElem?_bubble hk d hd i;have e:∀q:Array Nat,∀k,at0 q k=(q[k]?).getD 0:=fun q k=>by simp [at0,Array.getD];split<;>simp [*]
 rw [e,e,e,e,h];split
 .rfl
 .split<;>rfl
theorem jZ_ (O:Ordr c):∀(f:Nat) (p:Array Nat) (k:Nat),0<k->k+f<=p.size->Up c p k->Up c (cp_ c (kas_bin f p k)) (k+f)
 |0,p,k,_,_,h=>h
 |f+1,p,k,h0,hs,hu=>by
  unfold kas_bin;rw [b7_];obtain⟨a1,a2,a3⟩:=d7_ O hu k 0 k (by lia) (by lia) (AA _) (fun i z=>absurd z (by lia)) (fun i z1 z2=>absurd z2 (by lia));generalize cp_ c (kas_place p k k 0 k)=l at*
  have hu2:Up c (bubble p k (k-l)) (k+1):=by
   intro i j hij hj;rw [pC_ (by lia) (by lia),pC_ (by lia) (by lia),show k-(k-l)=l by lia];by_cases j1:j=l
   .rw [A7 j1,A5 (by lia),A5 (by lia)];exact a2 i (by lia)
   .rw [A5 j1];by_cases j2:l<j/\j<=k
    .rw [A7 j2];by_cases i1:i=l
     .rw [A7 i1];exact O.asym _ _ (a3 (j-1) (by lia) (by lia))
     .rw [A5 i1];by_cases i2:l<i/\i<=k
      .rw [A7 i2];exact hu _ _ (by lia) (by lia)
      .rw [A5 i2];exact hu _ _ (by lia) (by lia)
    .rw [A5 j2,A5 (by lia),A5 (by lia)];exact hu _ _ hij (by lia)
  have:=jZ_ O f (bubble p k (k-l)) (k+1) (by lia) (by rw [bubble_size];lia) hu2;rw [show k+(f+1)=k+1+f by lia];exact this
theorem hF_ (O:Ordr c) {n:Nat} (h0:0<n):Up c (cp_ c (kas_sort n)) n:=by
 unfold kas_sort;rw [b7_];obtain⟨r1,r2,r3,r4⟩:=kZ_ O (p:=List.toArray (List.range n)) (n:=n) (by simp) h0 _ rfl;generalize cp_ c (kas_count n (List.toArray (List.range n)))=r at*
 have sz:r.2.size=n:=by rw [r1];simp
 by_cases h:r.1<n
 .rw [A7 h];have em:max r.1 1=r.1:=by lia
  rw [em];have:=jZ_ O (n-r.1) r.2 r.1 r2 (by lia) r4;rw [show r.1+(n-r.1)=n by lia] at this;exact this
 .rw [A5 h];have:r.1=n:=by lia
  rw [this] at r4;exact r4
end
end L2
namespace L2
open PySem PySem.Spec PyProof.Rows PySem.W
theorem a7_.wpc {n:Nat}{c:Nat->Nat->Bool}{α:Type}{R:α->Prop}{cmp:Nat->Nat->(Bool->Shared->Prop)->Shared->Prop}{Q:α->Shared->Prop}{s:Shared} (hc:∀i j,i<n->j<n->∀C:Bool->Shared->Prop,C (c i j) s->cmp i j C s):∀{t:KasT α},(R (cp_ c t)->Q (cp_ c t) s)->a7_ n R t->t.kasWp cmp Q s
 | .ret a,hq,h=>hq h
 | .ask i j k,hq,h=>hc i j h.1 h.2.1 _ (a7_.wpc hc (t:=k (c i j)) hq (h.2.2 (c i j)))
theorem mC_:∀{xs ys zs:List Int},xs.length=ys.length->ys.length=zs.length->ff_ false ys xs=false->ff_ false zs ys=false->ff_ false zs xs=false
 |[],[],[],_,_,_,_=>rfl
 |x::xs,y::ys,z::zs,h1,h2,a,b=>by
  unfold ff_ at a b⊢;by_cases e1:y=x
  .rw [A7 e1] at a;by_cases e2:z=y
   .rw [A7 e2] at b;rw [A7 (e2.trans e1)];exact mC_ (by simpa using h1) (by simpa using h2) a b
   .rw [A5 e2] at b;have:=of_decide_eq_false b;rw [A5 (by lia)];exact Ak (by lia)
  .rw [A5 e1] at a;have a:=of_decide_eq_false a;by_cases e2:z=y
   .rw [A5 (by lia)];exact Ak (by lia)
   .rw [A5 e2] at b;have:=of_decide_eq_false b;rw [A5 (by lia)];exact Ak (by lia)
theorem hD_:∀{xs ys:List Int},xs.length=ys.length->ff_ false xs ys=true->ff_ false ys xs=false
 |[],[],_,h=>nomatch h
 |x::xs,y::ys,hl,h=>by
  unfold ff_ at h⊢;by_cases e:x=y
  .rw [A7 e] at h;rw [A7 e.symm];exact hD_ (by simpa using hl) h
  .rw [A5 e] at h;have:=B2 h;rw [A5 (by lia)];exact Ak (by lia)
theorem gs_ {xs ys:List Int} (h:xs.length=ys.length):ltI xs ys=ff_ false xs ys:=by
 unfold ltI;rw [Ak (by lia)]
def re_ (xss:List (List Int)) (i:Nat):List Int:=xss.getD i (xss.headD [])
def qh_ (xss:List (List Int)) (i j:Nat):Bool:=ltI (re_ xss i) (re_ xss j)
theorem mH_ {xss:List (List Int)}{i:Nat} (h:i<xss.length):re_ xss i=xss.getD i []:=by
 unfold re_;rw [A8,A8,A3 h];rfl
theorem gb_ {xss:List (List Int)}{i j:Nat} (hi:i<xss.length) (hj:j<xss.length):qh_ xss i j=ltI (xss.getD i []) (xss.getD j []):=by
 unfold qh_;rw [mH_ hi,mH_ hj]
theorem os_ {xss:List (List Int)}{m:Nat} (h0:0<xss.length) (h:∀xs∈xss,xs.length=m) (i:Nat):(re_ xss i).length=m:=by
 unfold re_;rw [A8];cases e:xss[i]? with
 |some x=>exact h x (AU e)
 |none=>
  cases xss with
  |nil=>cases h0
  |cons x xs=>exact h x (by simp)
theorem mk_ {xss:List (List Int)}{m:Nat} (h0:0<xss.length) (h:∀xs∈xss,xs.length=m):Ordr (qh_ xss):=by
 have k:=os_ h0 h;refine⟨fun a b e=> ?_,fun a b d e1 e2=> ?_⟩
 .unfold qh_ at e⊢;rw [gs_ (by rw [k,k])] at e⊢;exact hD_ (by rw [k,k]) e
 .unfold qh_ at e1 e2⊢;rw [gs_ (by rw [k,k])] at e1 e2⊢;exact mC_ (by rw [k,k]) (by rw [k,k]) e1 e2
def rS_:List V->Hp->VK->Prop:=fun vs H Q=>∃(v:V) (xss:List (List Int)) (m:Nat),vs=[v]/\Is H (.l (xss.map tI)) v/\0<m/\(∀xs∈xss,xs.length=m)/\xss.length<64/\
 ∀(yss:List (List Int)) (q:Addr) (H':Hp),yss.Perm xss->(∀i j,i<j->j<yss.length->ltI (yss.getD j []) (yss.getD i [])=false)->H q=none->an_ H H'->Is H' (.l (yss.map tI)) (.ref q)->Q (.ref q) H'
section
variable {prog:Program}{w:World}{A:Around}{E:Value->Shared->Prop}{s:Shared}
theorem g4_ {c:Nat->Nat->Bool}{kd:SortKind}{a:Addr}{vs:List Value}{n:Nat}{P:PySem.Fin->Shared->Prop} (ho:s.heap.get? a=some (seqObj "list" vs.toArray n)) (h2:2<=vs.length) (h64:vs.length<64)
  (hkd:∀(R:SortKind->Shared->Prop),R kd {s with heap:=aK_ s.heap a vs}->wpAny (model prog w) A (keyKind' vs.toArray) R E {s with heap:=aK_ s.heap a vs})
  (hc:∀i j,i<vs.length->j<vs.length->∀C:Bool->Shared->Prop,C (c i j) {s with heap:=aK_ s.heap a vs}->wpAny (model prog w) A (keyLt' kd (vs.getD i .none) (vs.getD j .none)) C (fun _ _=>False) {s with heap:=aK_ s.heap a vs})
  (h:∀p,Ord vs.length p->p=cp_ c (kas_sort vs.length)->P (.done (.ret .none)) {s with heap:=sortedHeap s.heap a vs (p.map fun i=>vs.getD i .none)}):wpAny (model prog w) A (Builtin.«list.sort» ⟨[.ref a],[]⟩) P E s:=by
 rw [list_sort_plain];have ha:a<s.heap.objs.size:=AI ho;refine A0 (listItems_at ho rfl ?_);refine A0 (Ca ho rfl ?_ (by rw [AE,Aw];lia) (AM _));obtain⟨e1,ho1⟩:∃e1,(s.heap.update a (Obj.mapSeq fun _=>(#[]:Array Value))).get? a=some (seqObj "list" #[] e1):=⟨_,CW ho (fun _=> #[])⟩;refine A0 (seqEpoch_at ho1 rfl ?_);refine A0 (wpAny_newTuple ?_ (by show vs.length<=_;rw [Aw];lia));refine A0 (Ck ?_ (AM _));refine Ar ?_;have ho6:(aK_ s.heap a vs).get? a=some (seqObj "list" #[] e1):=by
  rw [B5 _ _ _ (by rw [Bl,B1];exact AL (Ad ha)),B5 _ _ _ (by rw [B1];exact AL ha)];exact ho1
 show wpAny (model prog w) A _ P E {s with heap:=aK_ s.heap a vs};dsimp only;have hn2:¬vs.toArray.size<2:=by rw [AE];lia
 rw [A5 hn2,A5 hn2];refine A0 (hkd _ ?_);have est:kas_st kd (pairsOf vs) (List.toArray (List.range vs.length))=SortSt.mk' kd (vs.toArray.zip vs.toArray) #[] 7 none:=by
  have e:=kas_range (pairsOf vs);rw [pairsOf_size] at e;show SortSt.mk' kd ((List.toArray (List.range vs.length)).map (kas_item (pairsOf vs))) #[] 7 none=SortSt.mk' kd (pairsOf vs) #[] 7 none;rw [e]
 have ask:(kas_sort vs.length).kasWp (kas_cmp prog w A kd (pairsOf vs)) (fun p s'=>s'={s with heap:=aK_ s.heap a vs}/\Ord vs.length p/\p=cp_ c (kas_sort vs.length)) {s with heap:=aK_ s.heap a vs}:=by
  refine a7_.wpc (c:=c) (fun i j hi hj C hC=> ?_) (fun hp=>⟨rfl,hp,rfl⟩) (qw_ (by lia));rw [<-kas_ask_eq];exact hc i j hi hj C hC
 have run:=kas_runs (E:=E) (Q:=fun _ st' s'=>∃p,s'={s with heap:=aK_ s.heap a vs}/\(Ord vs.length p/\p=cp_ c (kas_sort vs.length))/\arrOf st'=p.map (kas_item (pairsOf vs))/\failedOf st'=none) h2 h64 (fun p' st' s' _ a2 a3 a4=>⟨p',a4.1,a4.2,a2,a3⟩) ask;rw [est] at run;refine A0 (BU run ?_ fun _ _ e=>e);rintro⟨⟨⟩,st'⟩ s' ⟨p,rfl,⟨hp,hpc⟩,har,hf⟩;dsimp only at har hf⊢;have eo:(arrOf st').map (·.2)=p.map fun i=>vs.getD i .none:=by
  rw [har,Array.map_map];refine Array.map_congr_left fun i _=> ?_;show(kas_item (pairsOf vs) i).2=_;rw [kas_item_eq]
 rw [eo];refine A0 (seqEpoch_at ho6 rfl ?_);refine A0 (Ca ho6 rfl ?_ (AM _) (by rw [Array.size_map,Aw,hp.size];lia));rw [hf];simp only [Cm,AH,Am];exact A2 (h p hp hpc)
theorem iB_ {c:Nat->Nat->Bool}{kd:SortKind}{l:Addr}{vs:List Value}{Q:Value->Shared->Prop} (hl:s.heap.IsList l vs.toArray) (h2:2<=vs.length) (h64:vs.length<64)
  (hkd:∀(R:SortKind->Shared->Prop) (E:Value->Shared->Prop),R kd {s with heap:=bq_ s.heap vs}->wpAny (model prog w) A.in1.in1 (keyKind' vs.toArray) R E {s with heap:=bq_ s.heap vs})
  (hc:∀i j,i<vs.length->j<vs.length->∀C:Bool->Shared->Prop,C (c i j) {s with heap:=bq_ s.heap vs}->wpAny (model prog w) A.in1.in1 (keyLt' kd (vs.getD i .none) (vs.getD j .none)) C (fun _ _=>False) {s with heap:=bq_ s.heap vs})
  (h:∀p,Ord vs.length p->p=cp_ c (kas_sort vs.length)->Q (.ref (s.heap.objs.size+1)) {s with heap:=sortedAll s.heap vs (p.map fun i=>vs.getD i .none)}):wpAny (model prog w) A (call (.builtin "sorted") [.ref l]) Q E s:=by
 refine Ch kind_sorted plain_sorted entry_sorted (args_sorted1 _) ?_;unfold Builtin.«sorted»;refine A0 (m:=checkCount "sorted" 1 1 _) (A2 ?_);refine A0 (collect_list hl ?_ (by rw [Aw];lia));refine A0 (Ck ?_ (by rw [Aw];lia));have hsz:((s.heap.push (seqObj "list" #[] 0)).update s.heap.objs.size (Obj.mapSeq (· ++vs.toArray))).objs.size=s.heap.objs.size+1:=by
  rw [B1,Bl]
 have hoL:(((s.heap.push (seqObj "list" #[] 0)).update s.heap.objs.size (Obj.mapSeq (· ++vs.toArray))).push (seqObj "list" vs.toArray 0)).get? (s.heap.objs.size+1)=some (seqObj "list" vs.toArray 0):=by
  rw [<-hsz];exact AF _ rfl
 show wpAny _ _ _ _ _ {s with heap:=((s.heap.push (seqObj "list" #[] 0)).update s.heap.objs.size (Obj.mapSeq (· ++vs.toArray))).push (seqObj "list" vs.toArray 0)};rw [hsz];refine A0 (Ar (Ab DI ⟨_,hoL,rfl⟩ DH (g4_ (c:=c) (s:={s with heap:=((s.heap.push (seqObj "list" #[] 0)).update s.heap.objs.size (Obj.mapSeq (· ++vs.toArray))).push (seqObj "list" vs.toArray 0)}) hoL h2 h64 (fun R=>hkd R _) hc fun p hp hpc=>⟨_,rfl, ?_⟩) (DJ _)));exact A2 ⟨_,rfl,h p hp hpc⟩
end
section
variable {X:Cx}{pins:List (Addr×Obj)}{σ:St}{H:Hp}{s:Shared}
theorem k9_:bQ_ X (.builtin "sorted") rS_:=by
 intro pins s σ H xs us Q I r h;obtain⟨v,xss,m,rfl,hv,hm,hne',hlen,q⟩:=h;have hne:∀xs∈xss,xs≠[]:=fun xs hx z=>by have:=hne' xs hx;rw [z] at this;exact absurd this (by show¬0=m;lia)
 obtain⟨l,rs,rfl,hl,hi⟩:=bT_ hv;have hrs:rs.length=xss.length:=by rw [hi.length,A1]
 obtain⟨u,rfl,rx⟩:=ek_ r;cases rx;obtain⟨its,r',pl,hz⟩:=I.list (SqL.of (K:=X.K) hl);have ln:=r'.length;by_cases h2:rs.length<2
 .refine fv_ (vs:=its) pl.isList (by lia) ?_;obtain⟨e,he⟩:=sortedAll_at s.heap its its.toArray;have fr:=I.hok.fresh (a:=s.heap.objs.size+1) (C3 _);exact⟨.ref (s.heap.objs.size+1),_,I.laid (t':=s.toks) (fun _ _=>sortedAll_old) (C3 _) (show aC_ X.prog X.w _ _ _ (.lst rs) from⟨hz,its,e,r',he⟩),rfl,q xss _ _ (List.Perm.refl _) (fun i j a b=>absurd b (by lia)) fr (an_.new fr) (cq_ ag_ (hi.mono (an_.new fr)))⟩
 .have I2:Inv X pins σ H {s with heap:=bq_ s.heap its}:=I.kept (t':=s.toks) fun b o e=>ef_ e;have lns:its.length=xss.length:=by lia
  refine iB_ (c:=qh_ xss) (kd:=tuples' true) (vs:=its) pl.isList (by lia) (by lia) (fun R E hR=> ?_) (fun i j hi' hj' C hC=> ?_) fun p ho hpc=> ?_
  .obtain⟨fs,k1,k2,k3⟩:=gE_ I2 hi r' hne;exact kat_kind (T:= .type "int") k1 (by lia) (fun f hf=>by obtain⟨z,t,rfl⟩:=k3 f hf;exact .now) rfl hR
  .have g:∀i,i<xss.length->∃a,its.getD i .none= .ref a/\SqT X.K H a ((xss.getD i []).map V.int):=fun i h=>by
    have hr:i<rs.length:=by lia
    obtain⟨d,hd,h1⟩:=hi.of_get (A3 hr);rw [A9,A3 h] at hd;cases hd;obtain⟨a,ea,ha⟩:=bS_ h1;obtain⟨u,hu1,ru⟩:=r'.get (A3 hr);rw [ea] at ru;obtain rfl:u=Value.ref a:=ru;refine⟨a, ?_, ?_⟩
    .rw [A8,hu1];rfl
    .rw [A8,A3 h];exact SqT.of ha
   obtain⟨a1,e1,s1⟩:=g i (by lia);obtain⟨a2,e2,s2⟩:=g j (by lia);rw [e1,e2];rw [gb_ (by lia) (by lia)] at hC;exact j2_ I2 s1 s2 hC
  .rw [lns] at ho hpc;have hpl:∀i∈p.toList,i<xss.length:=fun i hi=>ho.lt hi;obtain⟨e,he⟩:=sortedAll_at s.heap its (p.map fun i=>its.getD i .none);have en:(p.map fun i=>its.getD i .none)=List.toArray (p.toList.map fun i=>its.getD i .none):=by
    apply Array.toList_inj.mp;simp
   rw [en] at he⊢;have fr:=I.hok.fresh (a:=s.heap.objs.size+1) (C3 _);refine⟨.ref (s.heap.objs.size+1),_,I.laid (t':=s.toks) (fun _ _=>sortedAll_old) (C3 _) (show aC_ X.prog X.w _ _ _ (.lst (p.toList.map fun i=>rs.getD i .non)) from⟨?_,_,e,dp_ r' p.toList (fun i hi=>by rw [hrs];exact hpl i hi),he⟩),rfl,q (p.toList.map fun i=>xss.getD i []) _ _ ?_ ?_ fr (an_.new fr) (cq_ ag_ ((gG_ hi p.toList hpl).mono (an_.new fr)))⟩
   .rw [A1,Ah,Aw,ho.size];lia
   .have pp:=(CO.mp ho).map fun i=>xss.getD i [];rw [show(List.range xss.length).toArray.toList=List.range xss.length from rfl,jR_] at pp;exact pp
   .intro i j hij hj;rw [A1,Ah,ho.size] at hj;have up:=hF_ (mk_ (xss:=xss) (m:=m) (by lia) hne') (n:=xss.length) (by lia) i j hij hj;rw [<-hpc] at up;have g:∀i,i<xss.length->(p.toList.map fun i=>xss.getD i []).getD i []=xss.getD (at0 p i) []/\at0 p i<xss.length:=fun i h=>by
     have hs:i<p.size:=by rw [ho.size];exact h
     have e:at0 p i=p[i]:=by simp [at0,Array.getD,hs]
     rw [e];refine⟨?_,ho.lt (by simp)⟩;rw [A8,A9];simp [hs]
    obtain⟨g1,g2⟩:=g i (by lia);obtain⟨g3,g4⟩:=g j hj;rw [g1,g3];rw [gb_ g4 g2] at up;exact up
end
end L2
namespace L2
open PySem PySem.Spec PyProof.Rows
theorem oM_ {K:W.Frag}{a:Addr}{xs:List V}{own:Nat}{js:List Nat}{g:TG}{ti:TT}{te:TE}{σ:St}{H1:Hp}{acc:Addr}{Q:VK} (Pv:Nat->Hp->Prop) (h0:Pv 0 (upd H1 acc (.lst []))) (hl:∀i H2,i<=xs.length->Pv i H2->SqT K H2 a xs)
  (hs:∀i x H2,xs[i]? =some x->Pv i H2->g x (k8_ own js σ) H2 fun σ4 H4=>ti σ4 H4 fun b H5=>if b=true then te σ4 H5 fun y H6=>de_ (.ref acc) [y] H6 fun _ H7=>Pv (i+1) H7 else Pv (i+1) H5) (hd:∀H2,Pv xs.length H2->Q (.ref acc) H2)
  (mono:∀σ H (R R':St->Hp->Prop) x,(∀σ' H',R σ' H'->R' σ' H')->g x σ H R->g x σ H R') (monoT:∀σ H (R R':Bool->Hp->Prop),(∀b H',R b H'->R' b H')->ti σ H R->ti σ H R') (monoE:∀σ H (R R':VK),(∀v H',R v H'->R' v H')->te σ H R->te σ H R'):
  lh_ (Itt K a) own js g ti te σ H1 acc Q:=by
 refine⟨fun i m H2=>m=xs.length-i/\i<=xs.length/\Pv i H2,⟨xs.length,by simp,AM _,h0⟩, ?_⟩;rintro i m H2 ⟨rfl,hi,p⟩;have q:=hl i H2 hi p;by_cases hlt:i<xs.length
 .refine .inr ⟨⟨xs,xs[i],q,by simp [hlt]⟩,fun x H3 y=> ?_⟩;obtain⟨e1,y⟩:=y;subst e1;refine mono _ _ _ _ _ (fun σ4 H4 q=>monoT _ _ _ _ (fun b H5 q=> ?_) q) (hs i x _ (y xs q) p);cases b with
  |true=>
   refine monoE _ _ _ _ (fun v H6 q=> ?_) q;obtain⟨l,xs,y,a1,a2,a3,a4,a5⟩:=q;exact⟨l,xs,y,a1,a2,a3,a4,_,by lia,rfl,hlt,a5⟩
  |false=>exact⟨_,by lia,rfl,hlt,q⟩
 .have e:i=xs.length:=by lia
  subst e;exact .inl ⟨⟨xs,q,AA _⟩,hd H2 p⟩
section
variable {X:Cx}{K:W.Frag}
theorem no_ (h:X.K=K):bQ_ X (.builtin "isinstance") (fun xs H Q=>∃x n t b,xs=[x, .ty n]/\TyOf K H x t/\W.kitOne K t (.type n)=some b/\Q (.bl b) H):=h▸cS_
end
end L2
namespace HT
open PySem PySem.Spec PyProof.Rows
section
variable {prog:Program}{w:World}{A:Around}{E:Value->Shared->Prop}{s:Shared}
theorem getItem_tuple_all {t sl:Addr}{items:Array Value}{vl vu:Value}{lo hi:Option Int}{Q:Value->Shared->Prop} (ht:IsTup s.heap t items) (hs:s.heap.IsSliceOf sl vl vu .none) (pl:IsPart vl lo) (pu:IsPart vu hi)
  (hw:sIx items.size 0 lo=0/\sIx items.size items.size hi=items.size) (h:Q (.ref t) s):wpAny (model prog w) A (getItem (.ref t) (.ref sl)) Q E s:=by
 obtain⟨os,hos,hcs,hds⟩:=id hs;have hTs:s.TypeIs (.ref sl) "slice":=⟨os,hos,hcs⟩;unfold getItem;try with_reducible refine Ar ?_
 first|refine A0 (A2 ?_)|skip
 refine A0 (wpAny_sequenceKey ht.typeIs (by decide) ?_);refine A0 (Ax (name:=Str.ofString "__getitem__") ht.typeIs BK
  (Ab BK ht.typeIs entry_tuple_getitem ?_ (args_tuple_getitem _ _)))
 show wpAny _ _ (Builtin.Tuple.tupleItemsOf (.ref t)>>=_) _ _ s;refine A0 (tupleItemsOf_ ht ?_);refine A0 (DF hTs ?_);rw [A7 (by decide)];refine A0 (cj_ hs pl pu ?_);have hyes:(((sIx items.size 0 lo:Nat):Int)==0&&(1:Int)==1&&(sIx items.size items.size hi-sIx items.size 0 lo)==items.size)=true:=by
  rw [hw.1,hw.2];simp
 show wpAny _ _ (if(((sIx items.size 0 lo:Nat):Int)==0&&(1:Int)==1&&(sIx items.size items.size hi-sIx items.size 0 lo)==items.size)=true then _ else _) _ _ s;rw [A7 hyes];unfold Builtin.Tuple.tupleIsExact;refine A0 (A0 (DF ht.typeIs (A2 ?_)));rw [A7 (by decide)];refine A0 (CB ?_);exact A2 ⟨_,rfl,A2 h⟩
end
end HT
namespace L2
open PySem PySem.Spec PyProof.Rows
section
variable {X:Cx}
def u4_ (K:W.Frag):V->Option Int->Option Int->Hp->VK->Prop:=fun x lo hi H Q=>∃a xs,x= .ref a/\SqT K H a xs/\
 ((HT.sIx xs.length 0 lo=0/\HT.sIx xs.length xs.length hi=xs.length)->Q (.ref a) H)/\(¬(HT.sIx xs.length 0 lo=0/\HT.sIx xs.length xs.length hi=xs.length)->∀p,H p=none->Q (.ref p) (upd H p (.tup (kr_ xs lo hi))))
theorem pY_:SlR X (u4_ X.K):=by
 intro pins s σ H x v vl vu lo hi sl Q I rx hs pl pu h;obtain⟨a,xs,rfl,hx,q1,q2⟩:=h;by_cases hw:HT.sIx xs.length 0 lo=0/\HT.sIx xs.length xs.length hi=xs.length
 .cases rx;obtain⟨its,r,ht,hz⟩:=I.tuple hx;have hlen:its.toArray.size=xs.length:=by rw [AE];exact r.length.symm
  refine⟨"tuple",_,BK.lookup,ht.typeIs, ?_⟩;exact HT.getItem_tuple_all ht hs pl pu (by rw [hlen];exact hw) ⟨.ref a,H,I,rfl,q1 hw⟩
 .exact rN_ pins s σ H _ v vl vu lo hi sl Q I rx hs pl pu ⟨a,xs,rfl,hx,hw,q2 hw⟩
end
end L2
namespace L2
open PySem PySem.Spec PyProof.Rows PySem.W
section
variable {c:Nat->Nat->Bool}
end
section
variable {X:Cx}{pins:List (Addr×Obj)}{σ:St}{H:Hp}{s:Shared}
def bvs (bs:List Bool):Array Value:=(bs.map Value.bool).toArray
def EqT (K:W.Frag) (H:Hp) (n:Nat) (x y:V) (e:Bool):Prop:=∀(X:Cx) (pins:List (Addr×Obj)) (σ:St) (s:Shared),X.K=K->Inv X pins σ H s->∀(A:Around) (u v:Value),A.units+n<cLine->aZ_ x u->aZ_ y v->SeqAt.EqAt A s u v e
theorem EqR.told {K:W.Frag}{n:Nat}{x y:V}{e:Bool} (h:EqR K H n x y e):EqT K H n x y e:=fun X pins σ s hk I A u v hu ru rv=>by
 subst hk;exact(h.at_ I (A:=A) hu ru rv).2.2
def q7_ (K:W.Frag) (H:Hp) (n:Nat) (xs:List V) (x:V) (es:Nat->Bool):Prop:=n<=8/\(∀(j:Nat) z,xs[j]? =some z->(∃a,z= .ref a)/\EqT K H n z x (es j))/\∀(i j:Nat) z,xs[i]? =some z->xs[j]? =some z->es i=es j
open Classical in
theorem hY_ {n:Nat}{xs:List V}{x:V}{es:Nat->Bool}{its:List Value} (t:q7_ X.K H n xs x es) (r:aV_ xs its) {j:Nat}{u:Value} (hu:its[j]? =some u):hZ_ its es u=es j:=by
 have same:∀i:Nat,its[i]? =some u->es i=es j:=fun i hi=>by
  have li:=(AD.mp hi).1;have lj:=(AD.mp hu).1;have ln:=r.length;have xi:xs[i]? =some xs[i]:=A3 (by lia);have xj:xs[j]? =some xs[j]:=A3 (by lia);obtain⟨u1,e1,r1⟩:=r.get xi;obtain⟨u2,e2,r2⟩:=r.get xj;rw [hi] at e1;rw [hu] at e2;cases e1;cases e2;obtain⟨⟨a,ea⟩,_⟩:=t.2.1 i _ xi;obtain⟨⟨b,eb⟩,_⟩:=t.2.1 j _ xj;rw [ea] at r1 xi;rw [eb] at r2 xj;obtain rfl:u=Value.ref a:=r1;have:Value.ref a=Value.ref b:=r2;cases this;exact t.2.2 i j _ xi xj
 unfold hZ_;cases h:es j with
 |true=>exact BF ⟨j,hu,h⟩
 |false=>exact Ak fun⟨i,hi,e⟩=>by rw [same i hi,h] at e;cases e
def p5_ (K:W.Frag):V->List V->Hp->VK->Prop:=fun o vs H Q=>∃(p:Addr) (xs:List V) (x:V) (n:Nat) (es:Nat->Bool),o= .ref p/\vs=[x]/\SqL K H p xs/\q7_ K H n xs x es/\Q (.int (((List.range xs.length).countP es:Nat):Int)) H
theorem mq_ {k:Nat} (hr:Room k X.A):MtM X "list.count" (p5_ X.K):=by
 intro pins s σ H o vs v us Q I ro rv h;obtain⟨p,xs,x,n,es,rfl,rfl,hq,t,q⟩:=h;cases ro;obtain⟨u,rfl,ru⟩:=aV_.one rv;have hu:=hr.un;have t8:=t.1;obtain⟨its,r,pl,hz⟩:=I.list hq;have ln:=r.length;obtain⟨⟨cls,dd,data,sl⟩,ho,hc,m,hd⟩:=pl.isList;simp only at hc hd;subst hc hd;have ec:its.toArray.toList.countP (hZ_ its es)=(List.range xs.length).countP es:=by
  have e1:its=(List.range its.length).map fun i=>its.getD i .none:=by
   refine List.ext_getElem (by simp) fun i h1 h2=> ?_;simp [h1]
  have e2:its.countP (hZ_ its es)=((List.range its.length).map fun i=>its.getD i .none).countP (hZ_ its es):=by rw [<-e1]
  show its.countP (hZ_ its es)=_;rw [e2,List.countP_map,ln];refine List.countP_congr fun i hi=> ?_;have hi':i<its.length:=by simpa using hi
  have:hZ_ its es (its.getD i .none)=es i:=hY_ t r (by rw [A8,A3 hi'];rfl);simp only [Function.comp_apply,this]
 refine call_meets F.slot_list_count ⟨_,ho,rfl⟩ F.entry_list_count (F.args_list_count_2 _ _) (SeqAt.list_countAt p its.toArray m dd sl u (hZ_ its es)) ⟨ho,fun y hy=> ?_, ?_⟩
 .obtain⟨j,hj,e⟩:=C4.mp (by simpa using hy);have ej:its[j]? =some y:=by rw [A3 hj,e]
  have xj:xs[j]? =some xs[j]:=A3 (by lia);obtain⟨u2,e2,r2⟩:=r.get xj;rw [ej] at e2;cases e2;rw [hY_ t r ej];exact(t.2.1 j _ xj).2 X pins σ s rfl I _ _ _ (by rw [aI_];lia) r2 ru
 rw [ec];exact⟨.int _,H,I.tok _,⟨_,rfl⟩,q⟩
end
end L2
namespace L2
open PySem PySem.SetTable
def bR_ (m:Nat) (p:Probe):Probe:=advance {mask:=m,place:= #[],dummies:= #[],finger:=0,led:=true,moves:=0,plain:=true} p
def pAt (m:Nat) (h:Int):Nat->Probe
 |0=>probeStart {mask:=m,place:= #[],dummies:= #[],finger:=0,led:=true,moves:=0,plain:=true} h
 |n+1=>bR_ m (pAt m h n)
def sl (m:Nat) (h:Int) (n:Nat):Nat:=(pAt m h n).j
theorem s2_ (t:SetTable) (p:Probe):advance t p=bR_ t.mask p:=rfl
theorem eN_ {m:Nat}{p:Probe} (h:p.dummy=none):(bR_ m p).dummy=none:=by
 unfold bR_ advance;split<;>exact h
theorem eO_ (m:Nat) (h:Int):∀n,(pAt m h n).dummy=none
 |0=>rfl
 |n+1=>eN_ (eO_ m h n)
def Ris (xs:Array Nat):Prop:=∀i j,i<j->j<xs.size->xs.getD i 0<xs.getD j 0
theorem ke_ {xs:Array Nat}{i:Nat} (h:i<xs.size) (a b:Nat):xs.getD i a=xs.getD i b:=by simp [Array.getD,h]
theorem gU_ {xs:Array Nat}{j:Nat} (r:Ris xs):∀(f lo hi:Nat),hi-lo<=f->lo<=hi->hi<=xs.size->(∀i,i<lo->xs.getD i 0<j)->(∀i,hi<=i->i<xs.size->j<=xs.getD i 0)->
  lo<=below.go xs j f lo hi/\below.go xs j f lo hi<=hi/\(∀i,i<below.go xs j f lo hi->xs.getD i 0<j)/\(∀i,below.go xs j f lo hi<=i->i<xs.size->j<=xs.getD i 0)
 |0,lo,hi,hf,hl,hh,h1,h2=>by
  unfold below.go;have:lo=hi:=by lia
  subst this;exact⟨AA _,AA _,h1,h2⟩
 |f+1,lo,hi,hf,hl,hh,h1,h2=>by
  unfold below.go;by_cases c:lo<hi
  .rw [A7 c];dsimp only;have hm:(lo+hi)/2<xs.size:=by lia
   by_cases c2:xs.getD ((lo+hi)/2) j<j
   .rw [A7 c2];rw [ke_ hm j 0] at c2;obtain⟨a,b,c,d⟩:=gU_ r f ((lo+hi)/2+1) hi (by lia) (by lia) hh (fun i hi'=>by
     by_cases e:i=(lo+hi)/2
     .rw [e];exact c2
     .exact Nat.lt_trans (r i _ (by lia) hm) c2) h2
    exact⟨by lia,b,c,d⟩
   .rw [A5 c2];rw [ke_ hm j 0] at c2;obtain⟨a,b,c,d⟩:=gU_ r f lo ((lo+hi)/2) (by lia) (by lia) (by lia) h1 (fun i h3 h4=>by
     by_cases e:i=(lo+hi)/2
     .rw [e];lia
     .have:=r ((lo+hi)/2) i (by lia) h4;lia)
    exact⟨a,by lia,c,d⟩
  .rw [A5 c];have:lo=hi:=by lia
   subst this;exact⟨AA _,AA _,h1,h2⟩
theorem dL_ {xs:Array Nat} (r:Ris xs) (j:Nat):below xs j<=xs.size/\(∀i,i<below xs j->xs.getD i 0<j)/\(∀i,below xs j<=i->i<xs.size->j<=xs.getD i 0):=by
 obtain⟨_,b,c,d⟩:=gU_ (j:=j) r xs.size 0 xs.size (by lia) (AM _) (AA _) (fun i h=>absurd h (by lia)) (fun i h1 h2=>by lia);exact⟨b,c,d⟩
def In (xs:Array Nat) (j:Nat):Prop:=∃i,i<xs.size/\xs.getD i 0=j
theorem kw_ {xs:Array Nat} (r:Ris xs) {i:Nat} (hi:i<xs.size):below xs (xs.getD i 0)=i:=by
 obtain⟨a,b,c⟩:=dL_ r (xs.getD i 0);by_cases h:below xs (xs.getD i 0)<i
 .have:=c _ (AA _) (by lia);have:=r _ _ h hi;lia
 .by_cases h2:i<below xs (xs.getD i 0)
  .have:=b i h2;lia
  .lia
theorem g5_ {t:SetTable} (r:Ris t.place) {i:Nat} (hi:i<t.place.size):t.slot (t.place.getD i 0)= .live i:=by
 unfold slot;dsimp only;rw [kw_ r hi,A7];simp [Array.getD,hi]
theorem mV_ (j:Nat):has #[] j=false:=by unfold has;simp
theorem kK_ {t:SetTable} (r:Ris t.place) (hd:t.dummies= #[]) {j:Nat} (h:¬In t.place j):t.slot j= .empty:=by
 unfold slot;dsimp only;have e:(t.place[below t.place j]? ==some j)=false:=by
  cases q:t.place[below t.place j]? with
  |none=>rfl
  |some x=>
   obtain⟨hl,e⟩:=Bt.mp q;have:x≠j:=fun z=>h ⟨_,hl,by simp [Array.getD,hl,e,z]⟩;simpa using this
 rw [e,hd,mV_];rfl
theorem po_ (xs:Array Nat) (j:Nat):In xs j\/¬In xs j:=Classical.em _
theorem probe_go {t : SetTable} (r : Ris t.place) (hd : t.dummies = #[]) (hashAt : Nat -> Int) (h : Int) : ∀ (f n0 : Nat), (∃ n1, n0 <= n1 /\ n1 < n0 + f /\ ¬ In t.place (sl t.mask h n1)) ->
    ∃ n, n0 <= n /\ (∀ k, n0 <= k -> k < n -> ∃ i, i < t.place.size /\ t.place.getD i 0 = sl t.mask h k /\ (hashAt i == h) = false) /\
      ((¬ In t.place (sl t.mask h n) /\ probe.go t hashAt h f (pAt t.mask h n0) = some (.empty (sl t.mask h n) none)) \/
       ∃ i, i < t.place.size /\ t.place.getD i 0 = sl t.mask h n /\ (hashAt i == h) = true /\ probe.go t hashAt h f (pAt t.mask h n0) = some (.candidate (sl t.mask h n) i (pAt t.mask h (n + 1))))
  | 0, n0, ⟨n1, h1, h2, _⟩ => absurd h2 (by lia)
  | f + 1, n0, ⟨n1, h1, h2, h3⟩ => by
    unfold probe.go;rcases po_ t.place (sl t.mask h n0) with c | c
    . obtain ⟨i, hi, e⟩ := c
      have sl' : t.slot (pAt t.mask h n0).j = .live i := by
        show t.slot (sl t.mask h n0) = _;rw [<- e]; exact g5_ r hi
      rw [sl'];dsimp only;cases q : (hashAt i == h) with
      | true =>
        refine ⟨n0, AA _, fun k h1 h2 => absurd h2 (by lia), .inr ⟨i, hi, e, q, ?_⟩⟩;rw [A7 rfl];rfl
      | false =>
        have ne : n0 ≠ n1 := by rintro rfl; exact h3 ⟨i, hi, e⟩
        obtain ⟨n, a, b, c⟩ := probe_go r hd hashAt h f (n0 + 1) ⟨n1, by lia, by lia, h3⟩;refine ⟨n, by lia, fun k k1 k2 => ?_, ?_⟩
        . by_cases ek : k = n0
          . subst ek; exact ⟨i, hi, e, q⟩
          . exact b k (by lia) k2
        . rw [A5 (by simp), s2_]
          exact c
    . have sl' : t.slot (pAt t.mask h n0).j = .empty := kK_ r hd c
      rw [sl'];refine ⟨n0, AA _, fun k h1 h2 => absurd h2 (by lia), .inl ⟨c, ?_⟩⟩;dsimp only;rw [eO_];rfl
def pj_ (m:Nat) (q:Nat×Nat):Nat×Nat:=leap m q.1 q.2
def fj_ (m:Nat) (q:Nat×Nat):Probe:={j:=q.1,more:=runEnd m q.1-q.1,i:=q.1,perturb:=q.2,dummy:=none}
def bi_ (m:Nat) (q:Nat×Nat):Nat->Nat×Nat
 |0=>q
 |n+1=>pj_ m (bi_ m q n)
theorem lR_ (m i:Nat):runEnd m i-i<=9:=by unfold runEnd;split<;>lia
def di_ (m:Nat) (p:Probe):Nat->Probe
 |0=>p
 |n+1=>bR_ m (di_ m p n)
theorem eV_ (m:Nat) (p:Probe) (a:Nat):∀b,di_ m p (a+b)=di_ m (di_ m p a) b
 |0=>rfl
 |b+1=>by show bR_ m (di_ m p (a+b))=_;rw [eV_ m p a b];rfl
theorem dB_ (m:Nat) (h:Int) (a:Nat):∀b,pAt m h (a+b)=di_ m (pAt m h a) b
 |0=>rfl
 |b+1=>by show bR_ m (pAt m h (a+b))=_;rw [dB_ m h a b];rfl
theorem f2_ (m:Nat):∀(k:Nat) (p:Probe),p.more=k->p.dummy=none->di_ m p (k+1)=fj_ m (pj_ m (p.i,p.perturb))
 |0,p,hm,hd=>by
  show bR_ m p=_;unfold bR_ advance;rw [A5 (by lia)];obtain⟨j,mo,i,pe,du⟩:=p;dsimp only at hm hd;subst hm hd;rfl
 |k+1,p,hm,hd=>by
  have e:di_ m p (k+1+1)=di_ m (bR_ m p) (k+1):=by rw [show k+1+1=1+(k+1) by lia,eV_];rfl
  have en:bR_ m p={p with j:=p.j+1,more:=p.more-1}:=by
   unfold bR_ advance;rw [A7 (by lia)]
  rw [e,f2_ m k (bR_ m p) (by rw [en];show p.more-1=k;lia) (eN_ hd),en]
theorem far (m:Nat):∀(L:Nat) (p:Probe),p.more<=9->p.dummy=none->∃n,n<=10*(L+1)/\di_ m p n=fj_ m (bi_ m (p.i,p.perturb) (L+1))
 |0,p,h9,hd=>⟨p.more+1,by lia,f2_ m p.more p rfl hd⟩
 |L+1,p,h9,hd=>by
  obtain⟨n,hn,e⟩:=far m L p h9 hd;have:=lR_ m (bi_ m (p.i,p.perturb) (L+1)).1;refine⟨n+(runEnd m (bi_ m (p.i,p.perturb) (L+1)).1-(bi_ m (p.i,p.perturb) (L+1)).1+1),by lia, ?_⟩;rw [eV_,e];exact f2_ m _ (fj_ m (bi_ m (p.i,p.perturb) (L+1))) rfl rfl
def Tm (m i:Nat):Nat:=(i*5+1)%(m+1)
def Tn (m i:Nat):Nat->Nat
 |0=>i
 |n+1=>Tm m (Tn m i n)
theorem ih_ (m i a:Nat):∀b,Tn m i (a+b)=Tn m (Tn m i a) b
 |0=>rfl
 |b+1=>by show Tm m (Tn m i (a+b))=_;rw [ih_ m i a b];rfl
theorem dG_ (m:Nat) (q:Nat×Nat) (a:Nat):∀b,bi_ m q (a+b)=bi_ m (bi_ m q a) b
 |0=>rfl
 |b+1=>by show pj_ m (bi_ m q (a+b))=_;rw [dG_ m q a b];rfl
theorem d9_ (m:Nat) (q:Nat×Nat):∀n,(bi_ m q n).2=q.2/32^n
 |0=>by simp [bi_]
 |n+1=>by
  show(bi_ m q n).2/32=_;rw [d9_ m q n,Nat.div_div_eq_div_mul,Nat.pow_succ]
theorem d8_ (m:Nat) (i:Nat):∀n,bi_ m (i,0) n=(Tn m i n,0)
 |0=>rfl
 |n+1=>by
  show pj_ m (bi_ m (i,0) n)=_;rw [d8_ m i n];unfold pj_ leap;simp [Tn,Tm]
def Msk (m:Nat):Prop:=m=7\/m=31\/m=127
def orb (m:Nat):Nat->Nat->List Nat
 |0,_=>[]
 |n+1,i=>i::orb m n (Tm m i)
theorem pb_ (m:Nat):∀(n i e:Nat),e∈orb m n i->∃k,k<n/\Tn m i k=e
 |0,_,_,h=>by simp [orb] at h
 |n+1,i,e,h=>by
  rcases AJ.mp h with h|h
  .exact⟨0,by lia,h.symm⟩
  .obtain⟨k,hk,e⟩:=pb_ m n (Tm m i) e h;exact⟨k+1,by lia,by rw [show k+1=1+k by lia,ih_];exact e⟩
theorem vc_:(List.range 8).all (fun e=>(orb 7 8 0).contains e)=true:=by ac_nf
theorem ud_:(List.range 32).all (fun e=>(orb 31 32 0).contains e)=true:=by ac_nf
theorem r7_:(List.range 128).all (fun e=>(orb 127 128 0).contains e)=true:=by ac_nf
theorem vb_:Tn 7 0 8=0:=by ac_nf
theorem ua_:Tn 31 0 32=0:=by ac_nf
theorem r0_:Tn 127 0 128=0:=by ac_nf
theorem uc_ {m:Nat} (hm:Msk m):(∀e,e<=m->∃k,k<=m/\Tn m 0 k=e)/\Tn m 0 (m+1)=0:=by
 have go:∀n,(List.range (n+1)).all (fun e=>(orb n (n+1) 0).contains e)=true->∀e,e<=n->∃k,k<=n/\Tn n 0 k=e:=fun n h e he=>by
  have:=Al.mp h e (by simp;lia);obtain⟨k,hk,e⟩:=pb_ n (n+1) 0 e (by simpa using this);exact⟨k,by lia,e⟩
 rcases hm with rfl|rfl|rfl
 .exact⟨go 7 vc_,vb_⟩
 .exact⟨go 31 ud_,ua_⟩
 .exact⟨go 127 r7_,r0_⟩
theorem py_ {m:Nat} (hm:Msk m) {i e:Nat} (hi:i<=m) (he:e<=m):∃k,k<=m/\Tn m i k=e:=by
 obtain⟨o,p⟩:=uc_ hm;obtain⟨a,ha,rfl⟩:=o i hi;obtain⟨b,hb,rfl⟩:=o e he;by_cases c:a<=b
 .exact⟨b-a,by lia,by rw [<-ih_];congr 1;lia⟩
 .refine⟨m+1-a+b,by lia, ?_⟩;rw [<-ih_,show a+(m+1-a+b)=m+1+b by lia,ih_,p]
theorem nq_ (h:Int):bits h<2^64:=by unfold bits;lia
theorem ug_ {m:Nat} (hm:Msk m) {p:Probe} (h9:p.more<=9) (hd:p.dummy=none) (hp:p.perturb<2^64) {e:Nat} (he:e<=m):∃n,n<10*turns m/\(di_ m p n).j=e:=by
 have z:∀L,13<=L->(bi_ m (p.i,p.perturb) L).2=0:=fun L hL=>by
  rw [d9_];apply Nat.div_eq_of_lt;have h1:(32:Nat)^13<=32^L:=CK (by decide) hL;have h2:(2:Nat)^64<32^13:=by decide
  show p.perturb<_;lia
 have j13:(bi_ m (p.i,p.perturb) 13).1<=m:=by
  show(leap m _ _).1<=m;unfold leap;have:=DA ((bi_ m (p.i,p.perturb) 12).1*5+1+(bi_ m (p.i,p.perturb) 12).2/32) (show 0<m+1 by lia);dsimp only;lia
 obtain⟨k,hk,ek⟩:=py_ hm j13 he;obtain⟨n,hn,en⟩:=far m (12+k) p h9 hd;refine⟨n,by unfold turns;lia, ?_⟩;rw [en,show 12+k+1=13+k by lia,dG_];have e13:bi_ m (p.i,p.perturb) 13=((bi_ m (p.i,p.perturb) 13).1,0):=Prod.ext rfl (z 13 (AA _));rw [e13,d8_];exact ek
theorem mh_ (m:Nat) (h:Int):∀n,(pAt m h n).more<=9/\(pAt m h n).perturb<2^64
 |0=>⟨lR_ m _,nq_ h⟩
 |n+1=>by
  obtain⟨a,b⟩:=mh_ m h n;show(bR_ m (pAt m h n)).more<=9/\(bR_ m (pAt m h n)).perturb<2^64;unfold bR_ advance;split
  .exact⟨by show(pAt m h n).more-1<=9;lia,b⟩
  .unfold leap;dsimp only;exact⟨lR_ _ _,by lia⟩
theorem uG_ {m:Nat} (hm:Msk m) (h:Int) (n0:Nat) {e:Nat} (he:e<=m):∃n1,n0<=n1/\n1<n0+10*turns m/\sl m h n1=e:=by
 obtain⟨n,hn,e⟩:=ug_ hm (mh_ m h n0).1 (eO_ m h n0) (mh_ m h n0).2 he;exact⟨n0+n,by lia,by lia,by unfold sl;rw [dB_];exact e⟩
theorem fz_:∀(k N:Nat) (f:Nat->Nat),(∀j,j<N->∃i,i<k/\f i=j)->N<=k
 |0,N,f,h=>by
  rcases Nat.eq_zero_or_pos N with e|e
  .lia
  .obtain⟨i,hi,_⟩:=h 0 e;lia
 |k+1,N,f,h=>by
  by_cases c:f k<N
  .have:=fz_ k (N-1) (fun i=>if f k<f i then f i-1 else f i) fun j hj=>by
    by_cases e:j<f k
    .obtain⟨i,hi,ei⟩:=h j (by lia);refine⟨i, ?_, ?_⟩
     .by_cases z:i=k
      .subst z;lia
      .lia
     .rw [A5 (by lia)];exact ei
    .obtain⟨i,hi,ei⟩:=h (j+1) (by lia);refine⟨i, ?_, ?_⟩
     .by_cases z:i=k
      .subst z;lia
      .lia
     .rw [A7 (by lia)];lia
   lia
  .have:=fz_ k N f fun j hj=>by
    obtain⟨i,hi,ei⟩:=h j hj;refine⟨i, ?_,ei⟩;by_cases z:i=k
    .subst z;lia
    .lia
   lia
def hAt (es:Array (Int×Value)) (i:Nat):Int:=(es[i]?.map (·.1)).getD 0
structure Tb (t:SetTable) (es:Array (Int×Value)):Prop where
 mask:Msk t.mask
 dum:t.dummies= #[]
 size:t.place.size=es.size
 ris:Ris t.place
 bnd:∀i,i<t.place.size->t.place.getD i 0<=t.mask
 reach:∀i,i<es.size->∃n,sl t.mask (hAt es i) n=t.place.getD i 0/\∀k,k<n->In t.place (sl t.mask (hAt es i) k)
theorem Tb.free {t:SetTable}{es:Array (Int×Value)} (b:Tb t es) (h:es.size<=t.mask):∃e,e<=t.mask/\¬In t.place e:=by
 refine By fun z=> ?_;have:=fz_ t.place.size (t.mask+1) (fun i=>t.place.getD i 0) fun j hj=>by
  rcases po_ t.place j with c|c
  .exact c
  .exact absurd ⟨j,by lia,c⟩ z
 have:=b.size;lia
theorem Tb.probe {t : SetTable} {es : Array (Int × Value)} (b : Tb t es) (hs : es.size <= t.mask) (hashAt : Nat -> Int) (h : Int) (n0 : Nat) :
    ∃ n, n0 <= n /\ (∀ k, n0 <= k -> k < n -> ∃ i, i < t.place.size /\ t.place.getD i 0 = sl t.mask h k /\ (hashAt i == h) = false) /\
      ((¬ In t.place (sl t.mask h n) /\ t.probe hashAt h (pAt t.mask h n0) = some (.empty (sl t.mask h n) none)) \/
       ∃ i, i < t.place.size /\ t.place.getD i 0 = sl t.mask h n /\ (hashAt i == h) = true /\ t.probe hashAt h (pAt t.mask h n0) = some (.candidate (sl t.mask h n) i (pAt t.mask h (n + 1)))) := by
  obtain ⟨e, he, hn⟩ := b.free hs;obtain ⟨n1, h1, h2, h3⟩ := uG_ b.mask h n0 he;exact probe_go b.ris b.dum hashAt h _ n0 ⟨n1, h1, h2, by rw [h3]; exact hn⟩
theorem ei_ {α:Type}{xs:Array α}{p:Nat} (hp:p<=xs.size) (x:α) (i:Nat):(insertAt xs p x)[i]? =if i<p then xs[i]? else if i=p then some x else xs[i-1]? :=by
 unfold insertAt;have s1:(xs.extract 0 p).size=p:=by simp;lia
 have s2:((xs.extract 0 p).push x).size=p+1:=by simp;lia
 by_cases h1:i<p
 .rw [A7 h1,Array.getElem?_append_left (by rw [s2];lia),Array.getElem?_push,A5 (by rw [s1];lia)];simp [Array.getElem?_extract];lia
 .rw [A5 h1];by_cases h2:i=p
  .rw [A7 h2,Array.getElem?_append_left (by rw [s2];lia),Array.getElem?_push,A7 (by rw [s1];exact h2)]
  .rw [A5 h2,Array.getElem?_append_right (by rw [s2];lia),s2];simp only [Array.getElem?_extract];by_cases h3:i-(p+1)<xs.size-p
   .rw [A7 (by lia)];congr 1
    lia
   .rw [A5 (by lia)];symm;rw [Array.getElem?_eq_none_iff];lia
theorem bj_ {α:Type}{xs:Array α}{p:Nat} (hp:p<=xs.size) (x:α):(insertAt xs p x).size=xs.size+1:=by
 unfold insertAt;simp;lia
theorem gK_ (xs:Array Nat) (i:Nat):xs.getD i 0=(xs[i]?).getD 0:=by
 by_cases h:i<xs.size<;>simp [Array.getD,h]
theorem bY_ {xs:Array Nat}{p:Nat} (hp:p<=xs.size) (x i:Nat):(insertAt xs p x).getD i 0=if i<p then xs.getD i 0 else if i=p then x else xs.getD (i-1) 0:=by
 rw [gK_,ei_ hp,gK_,gK_];split
 .rfl
 .split<;>rfl
theorem sw_ {xs:Array Nat}{p:Nat} (hp:p<=xs.size) (x j:Nat):In (insertAt xs p x) j↔In xs j\/j=x:=by
 constructor
 .rintro⟨i,hi,e⟩;rw [bj_ hp] at hi;rw [bY_ hp] at e;by_cases h1:i<p
  .rw [A7 h1] at e;exact .inl ⟨i,by lia,e⟩
  .rw [A5 h1] at e;by_cases h2:i=p
   .rw [A7 h2] at e;exact .inr e.symm
   .rw [A5 h2] at e;exact .inl ⟨i-1,by lia,e⟩
 .rintro(⟨i,hi,e⟩|rfl)
  .by_cases h1:i<p
   .exact⟨i,by rw [bj_ hp];lia,by rw [bY_ hp,A7 h1];exact e⟩
   .exact⟨i+1,by rw [bj_ hp];lia,by rw [bY_ hp,A5 (by lia),A5 (by lia)];exact e⟩
  .exact⟨p,by rw [bj_ hp];lia,by rw [bY_ hp,A5 (Bk _),A7 rfl]⟩
theorem qJ_ {xs:Array Nat} (r:Ris xs) {j:Nat} (h:¬In xs j):Ris (insertAt xs (below xs j) j):=by
 obtain⟨a,b,c⟩:=dL_ r j;have c':∀i,below xs j<=i->i<xs.size->j<xs.getD i 0:=fun i h1 h2=>by
  have:=c i h1 h2;have:xs.getD i 0≠j:=fun z=>h ⟨i,h2,z⟩;lia
 intro i k hik hk;rw [bj_ a] at hk;rw [bY_ a,bY_ a];by_cases h1:k<below xs j
 .rw [A7 h1,A7 (by lia)];exact r i k hik (by lia)
 .rw [A5 h1];by_cases h2:k=below xs j
  .rw [A7 h2,A7 (by lia)];exact b i (by lia)
  .rw [A5 h2];by_cases h3:i<below xs j
   .rw [A7 h3];exact Nat.lt_trans (b i h3) (c' (k-1) (by lia) (by lia))
   .rw [A5 h3];by_cases h4:i=below xs j
    .rw [A7 h4];exact c' (k-1) (by lia) (by lia)
    .rw [A5 h4];exact r (i-1) (k-1) (by lia) (by lia)
theorem o6_ (t:SetTable) (hd:t.dummies= #[]) (j:Nat):t.put j=({t with place:=insertAt t.place (below t.place j) j},below t.place j):=by
 unfold put;dsimp only;rw [hd,mV_];obtain⟨a,b,c,d,e,f,g⟩:=t;dsimp only at hd;subst hd;rfl
theorem Tb.add {t:SetTable}{es:Array (Int×Value)} (b:Tb t es) (h:Int) (x:Value) (n:Nat) (hn:¬In t.place (sl t.mask h n)) (hm:sl t.mask h n<=t.mask) (hk:∀k,k<n->In t.place (sl t.mask h k)):
  Tb (t.put (sl t.mask h n)).1 (insertAt es (t.put (sl t.mask h n)).2 (h,x)):=by
 rw [o6_ t b.dum];obtain⟨a1,a2,a3⟩:=dL_ b.ris (sl t.mask h n);have a1':below t.place (sl t.mask h n)<=es.size:=by rw [<-b.size];exact a1
 refine⟨b.mask,b.dum, ?_,qJ_ b.ris hn, ?_, ?_⟩
 .rw [bj_ a1,bj_ a1',b.size]
 .intro i hi;dsimp only at hi⊢;rw [bj_ a1] at hi;rw [bY_ a1];split
  .exact b.bnd i (by lia)
  .split
   .exact hm
   .exact b.bnd (i-1) (by lia)
 .intro i hi;dsimp only at hi⊢;rw [bj_ a1'] at hi;have sub:∀j,In t.place j->In (insertAt t.place (below t.place (sl t.mask h n)) (sl t.mask h n)) j:=fun j hj=>(sw_ a1 _ j).mpr (.inl hj);have eh:hAt (insertAt es (below t.place (sl t.mask h n)) (h,x)) i=if i<below t.place (sl t.mask h n) then hAt es i else if i=below t.place (sl t.mask h n) then h else hAt es (i-1):=by
   unfold hAt;rw [ei_ a1'];split
   .rfl
   .split<;>rfl
  rw [bY_ a1,eh];by_cases h1:i<below t.place (sl t.mask h n)
  .rw [A7 h1,A7 h1];obtain⟨m,e,q⟩:=b.reach i (by lia);exact⟨m,e,fun k hk=>sub _ (q k hk)⟩
  .rw [A5 h1,A5 h1];by_cases h2:i=below t.place (sl t.mask h n)
   .rw [A7 h2,A7 h2];exact⟨n,rfl,fun k hk'=>sub _ (hk k hk')⟩
   .rw [A5 h2,A5 h2];obtain⟨m,e,q⟩:=b.reach (i-1) (by lia);exact⟨m,e,fun k hk=>sub _ (q k hk)⟩
theorem iI_ {m i:Nat} (h:i<=m):i+(runEnd m i-i)<=m:=by unfold runEnd;split<;>lia
theorem mi_ (m:Nat) (h:Int):∀n,(pAt m h n).j+(pAt m h n).more<=m
 |0=>by
  have:=DA (bits h) (show 0<m+1 by lia);exact iI_ (m:=m) (i:=bits h%(m+1)) (by lia)
 |n+1=>by
  have a:=mi_ m h n;show(bR_ m (pAt m h n)).j+(bR_ m (pAt m h n)).more<=m;unfold bR_ advance;split
  .show(pAt m h n).j+1+((pAt m h n).more-1)<=m;lia
  .unfold leap;dsimp only;have:=DA ((pAt m h n).i*5+1+(pAt m h n).perturb/32) (show 0<m+1 by lia);exact iI_ (by lia)
theorem rO_ (m:Nat) (h:Int) (n:Nat):sl m h n<=m:=by
 have:=mi_ m h n;unfold sl;lia
abbrev Own:=Array (Option Nat)
def Occ (o:Own) (j:Nat):Prop:=∃k,o[j]? =some (some k)
theorem jC_ (m:Nat) (q:Nat×Nat):∀k,k<=runEnd m q.1-q.1->(di_ m (fj_ m q) k).j=q.1+k/\(di_ m (fj_ m q) k).more=runEnd m q.1-q.1-k
 |0,_=>⟨rfl,rfl⟩
 |k+1,h=>by
  obtain⟨a,b⟩:=jC_ m q k (by lia);show(bR_ m (di_ m (fj_ m q) k)).j=_/\(bR_ m (di_ m (fj_ m q) k)).more=_;unfold bR_ advance;rw [A7 (by lia)];dsimp only;rw [a,b];exact⟨by lia,by lia⟩
theorem fM_ {p:Nat->Bool}:∀(n:Nat),((List.range n).find? p=none/\∀i,i<n->p i=false)\/∃k,k<n/\(List.range n).find? p=some k/\p k=true/\∀i,i<k->p i=false
 |0=> .inl ⟨rfl,fun i h=>absurd h (by lia)⟩
 |n+1=>by
  rw [Au,List.find?_append];rcases fM_ (p:=p) n with⟨a,b⟩|⟨k,h1,h2,h3,h4⟩
  .rw [a];cases c:p n with
   |true=>exact .inr ⟨n,by lia,by simp [c],c,b⟩
   |false=>
    refine .inl ⟨by simp [c],fun i hi=> ?_⟩;by_cases e:i=n
    .rw [e];exact c
    .exact b i (by lia)
  .rw [h2];exact .inr ⟨k,by lia,rfl,h3,h4⟩
theorem mX_ {m:Nat}{o:Own} (hs:o.size=m+1) (h:Int):∀(f:Nat) (q:Nat×Nat) (n:Nat),q.1<=m->pAt m h n=fj_ m q->(∀k,k<n->Occ o (sl m h k))->(∃L,L<f/\¬Occ o (bi_ m q L).1)->
  ∃n',layClean.free m o f q.1 q.2=some (sl m h n')/\¬Occ o (sl m h n')/\∀k,k<n'->Occ o (sl m h k)
 |0,q,n,hq,hp,ho,⟨L,hL,_⟩=>absurd hL (by lia)
 |f+1,q,n,hq,hp,ho,⟨L,hL,hf⟩=>by
  unfold layClean.free;have run:∀k,k<runEnd m q.1+1-q.1->sl m h (n+k)=q.1+k:=fun k hk=>by
   unfold sl;rw [dB_,hp];exact(jC_ m q k (by lia)).1
  have rb:=iI_ hq;have rl:q.1<=runEnd m q.1:=by unfold runEnd;split<;>lia
  have no:∀j,j<=m->(((o.getD j (some 0)).isNone=false->Occ o j)/\((o.getD j (some 0)).isNone=true->¬Occ o j)):=fun j hj=>by
   have hj':j<o.size:=by lia
   have e:o[j]? =some (o.getD j (some 0)):=by simp [Array.getD,hj']
   constructor
   .intro z;cases c:o.getD j (some 0) with
    |none=>rw [c] at z;cases z
    |some k=>exact⟨k,by rw [e,c]⟩
   .rintro z ⟨k,hk⟩;rw [e] at hk;rw [Ae hk] at z;cases z
  rcases fM_ (p:=fun k=>(o.getD (q.1+k) (some 0)).isNone) (runEnd m q.1+1-q.1) with⟨a,b⟩|⟨k,h1,h2,h3,h4⟩
  .rw [a];dsimp only;have all:∀k,k<n+(runEnd m q.1-q.1+1)->Occ o (sl m h k):=fun k hk=>by
    by_cases c:k<n
    .exact ho k c
    .have e:k=n+(k-n):=by lia
     rw [e,run (k-n) (by lia)];exact(no _ (by lia)).1 (b (k-n) (by lia))
   have hj:(pj_ m q).1<=m:=by
    show(leap m _ _).1<=m;unfold leap;have:=DA (q.1*5+1+q.2/32) (show 0<m+1 by lia);dsimp only;lia
   have hp':pAt m h (n+(runEnd m q.1-q.1+1))=fj_ m (pj_ m q):=by
    rw [dB_,hp];exact f2_ m _ (fj_ m q) rfl rfl
   have hL0:L≠0:=by
    rintro rfl;apply hf;have:=(no q.1 hq).1 (b 0 (by unfold runEnd;split<;>lia))
    exact this
   obtain⟨L',rfl⟩:∃L',L=L'+1:=⟨L-1,by lia⟩;exact mX_ hs h f (pj_ m q) _ hj hp' all ⟨L',by lia,by
    rw [show L'+1=1+L' by lia,dG_] at hf;exact hf⟩
  .rw [h2];dsimp only;refine⟨n+k,by rw [run k h1], ?_,fun k' hk'=> ?_⟩
   .rw [run k h1];exact(no _ (by lia)).2 h3
   .by_cases c:k'<n
    .exact ho k' c
    .have e:k'=n+(k'-n):=by lia
     rw [e,run (k'-n) (by lia)];exact(no _ (by lia)).1 (h4 (k'-n) (by lia))
theorem sj_ {m:Nat} (hm:Msk m) (q:Nat×Nat) (hp:q.2<2^64) {e:Nat} (he:e<=m):∃L,L<turns m/\(bi_ m q L).1=e:=by
 have z:(bi_ m q 13).2=0:=by
  rw [d9_];apply Nat.div_eq_of_lt;have h2:(2:Nat)^64<32^13:=by decide
  lia
 have j13:(bi_ m q 13).1<=m:=by
  show(leap m _ _).1<=m;unfold leap;have:=DA ((bi_ m q 12).1*5+1+(bi_ m q 12).2/32) (show 0<m+1 by lia);dsimp only;lia
 obtain⟨k,hk,ek⟩:=py_ hm j13 he;refine⟨13+k,by unfold turns;lia, ?_⟩;rw [dG_];have e13:bi_ m q 13=((bi_ m q 13).1,0):=Prod.ext rfl z;rw [e13,d8_];exact ek
structure Lay (m:Nat) (hs:List Int) (o:Own) (ss:Nat->Nat):Prop where
 size:o.size=m+1
 at_:∀i,i<hs.length->ss i<=m/\o[ss i]? =some (some i)
 of_:∀j k,o[j]? =some (some k)->k<hs.length/\ss k=j
 reach:∀(i:Nat) h,hs[i]? =some h->∃n,sl m h n=ss i/\∀k,k<n->Occ o (sl m h k)
theorem Lay.step {m:Nat} (hm:Msk m) {hs:List Int}{o:Own}{ss:Nat->Nat} (l:Lay m hs o ss) (h:Int) (hl:hs.length<=m):
  ∃j,layClean.free m o (turns m) (bits h%(m+1)) (bits h)=some j/\∃ss',Lay m (hs++[h]) (o.setIfInBounds j (some hs.length)) ss':=by
 obtain⟨e,he,hne⟩:∃e,e<=m/\¬Occ o e:=by
  refine By fun z=> ?_;have:=fz_ hs.length (m+1) ss fun j hj=>by
   rcases Classical.em (Occ o j) with⟨k,hk⟩|c
   .exact⟨k,(l.of_ j k hk).1,(l.of_ j k hk).2⟩
   .exact absurd ⟨j,by lia,c⟩ z
  lia
 obtain⟨L,hL,eL⟩:=sj_ hm (bits h%(m+1),bits h) (nq_ h) he;have i0:=DA (bits h) (show 0<m+1 by lia);obtain⟨n,e1,e2,e3⟩:=mX_ l.size h (turns m) (bits h%(m+1),bits h) 0 (by lia) rfl (fun k hk=>absurd hk (by lia)) ⟨L,hL,by rw [eL];exact hne⟩;have jm:=rO_ m h n;have js:sl m h n<o.size:=by rw [l.size];lia
 refine⟨sl m h n,e1,fun i=>if i=hs.length then sl m h n else ss i, ?_⟩;have set_:∀j,(o.setIfInBounds (sl m h n) (some hs.length))[j]? =if j=sl m h n then some (some hs.length) else o[j]? :=fun j=>by
  rw [Array.getElem?_setIfInBounds];by_cases c:sl m h n=j
  .rw [A7 c,A7 c.symm];simp [<-c,js]
  .rw [A5 c,A5 fun z=>c z.symm]
 have sub:∀j,Occ o j->Occ (o.setIfInBounds (sl m h n) (some hs.length)) j:=fun j ⟨k,hk⟩=>by
  refine⟨k, ?_⟩;rw [set_,A5]
  .exact hk
  .rintro rfl;exact e2 ⟨k,hk⟩
 refine⟨by rw [Array.size_setIfInBounds];exact l.size,fun i hi=> ?_,fun j k hk=> ?_,fun i h' hh'=> ?_⟩
 .rw [AC,BS] at hi;by_cases c:i=hs.length
  .rw [A7 c,set_,A7 rfl,c];exact⟨jm,rfl⟩
  .rw [A5 c,set_];obtain⟨a,b⟩:=l.at_ i (by lia);refine⟨a, ?_⟩;rw [A5]
   .exact b
   .intro z;rw [z] at b;exact e2 ⟨i,b⟩
 .rw [set_] at hk;rw [AC,BS];by_cases c:j=sl m h n
  .rw [A7 c] at hk;cases hk;exact⟨by lia,by rw [A7 rfl];exact c.symm⟩
  .rw [A5 c] at hk;obtain⟨a,b⟩:=l.of_ j k hk;exact⟨by lia,by rw [A5 (by lia)];exact b⟩
 .by_cases c:i<hs.length
  .rw [List.getElem?_append_left c] at hh';obtain⟨n',a,b⟩:=l.reach i h' hh';rw [A5 (by lia)];exact⟨n',a,fun k hk=>sub _ (b k hk)⟩
  .have hlt:=(AD.mp hh').1;rw [AC,BS] at hlt;obtain rfl:i=hs.length:=by lia
   rw [CM (AA _),Nat.sub_self] at hh';cases hh';rw [A7 rfl];exact⟨n,rfl,fun k hk=>sub _ (e3 k hk)⟩
def eZ_ (m:Nat) (acc:Option (Own×Nat)) (h:Int):Option (Own×Nat):=do
 let (owner,k)<-acc
 let j<-layClean.free m owner (turns m) (bits h%(m+1)) (bits h)
 pure (owner.setIfInBounds j (some k),k+1)
theorem jY_ {m:Nat} (hm:Msk m):∀(more hs:List Int) (o:Own) (ss:Nat->Nat),Lay m hs o ss->hs.length+more.length<=m+1->
  ∃o' ss',more.foldl (eZ_ m) (some (o,hs.length))=some (o',(hs++more).length)/\Lay m (hs++more) o' ss'
 |[],hs,o,ss,l,_=>⟨o,ss,by simp,by simpa using l⟩
 |h::more,hs,o,ss,l,hl=>by
  rw [AY] at hl;obtain⟨j,e,ss',l'⟩:=l.step hm h (by lia);obtain⟨o',ss2,e2,l2⟩:=jY_ hm more (hs++[h]) _ ss' l' (by rw [AC,BS];lia);rw [BA,List.singleton_append] at e2 l2;refine⟨o',ss2, ?_,l2⟩;rw [CD];have es:eZ_ m (some (o,hs.length)) h=some (o.setIfInBounds j (some hs.length),(hs++[h]).length):=by
   unfold eZ_;simp only [Option.bind_eq_bind,Option.bind_some,e];simp
  rw [es];exact e2
theorem mE_ {m:Nat} (hm:Msk m) (hs:Array Int) (hl:hs.size<=m+1):∃o ss,layClean m hs=some o/\Lay m hs.toList o ss:=by
 have l0:Lay m [] (Array.replicate (m+1) none) (fun _=>0):=⟨by simp,fun i hi=>absurd hi (by simp),fun j k hk=>(by
  rw [Array.getElem?_replicate] at hk;split at hk<;>cases hk),fun i h e=>by simp at e⟩
 obtain⟨o,ss,e,l⟩:=jY_ hm hs.toList [] _ _ l0 (by simpa using hl);refine⟨o,ss, ?_,by simpa using l⟩;unfold layClean;have:hs.foldl (init:=some (Array.replicate (m+1) none,0)) (eZ_ m)=some (o,([]++hs.toList).length):=by
  rw [<-Array.foldl_toList];exact e
 have e2:(hs.foldl (init:=some (Array.replicate (m+1) none,0)) fun acc h=>do
  let (owner,k)<-acc
  let j<-layClean.free m owner (turns m) (bits h%(m+1)) (bits h)
  pure (owner.setIfInBounds j (some k),k+1))=hs.foldl (init:=some (Array.replicate (m+1) none,0)) (eZ_ m):=rfl
 rw [e2,this];rfl
def bh_ (m:Nat) (o:Own):List (Nat×Nat):=(List.range (m+1)).filterMap fun j=>(o.getD j none).map (j, ·)
theorem gw_ {m:Nat}{o:Own} (hs:o.size=m+1) (j k:Nat):(j,k)∈bh_ m o↔o[j]? =some (some k):=by
 unfold bh_;rw [DB];constructor
 .rintro⟨a,ha,e⟩;obtain⟨k',e1,e2⟩:=A4.mp e;cases e2;have hj:j<o.size:=by rw [hs];simpa using ha
  have e:o[j]? =some (o.getD j none):=by simp [Array.getD,hj]
  rw [e,e1]
 .intro e;obtain⟨hj,e2⟩:=Bt.mp e;refine⟨j,by simpa [hs] using hj, ?_⟩;have:o.getD j none=some k:=by simp [Array.getD,hj,e2]
  rw [this];rfl
theorem qy_ (m:Nat) (o:Own):(bh_ m o).Pairwise fun a b=>a.1<b.1:=by
 unfold bh_;rw [List.pairwise_filterMap];refine List.Pairwise.imp ?_ (Co (n:=m+1));intro a b hab x hx y hy;obtain⟨_,_,e1⟩:=A4.mp hx;obtain⟨_,_,e2⟩:=A4.mp hy;rw [<-e1,<-e2];exact hab
structure Laid (m:Nat) (hs:Array Int) (pl od:Array Nat):Prop where
 ps:pl.size=hs.size
 os:od.size=hs.size
 ris:Ris pl
 bnd:∀i,i<pl.size->pl.getD i 0<=m
 lt:∀i,i<hs.size->od.getD i 0<hs.size
 inj:∀i j,i<hs.size->j<hs.size->od.getD i 0=od.getD j 0->i=j
 sur:∀k,k<hs.size->∃i,i<hs.size/\od.getD i 0=k
 reach:∀i,i<hs.size->∃n,sl m (hs.getD (od.getD i 0) 0) n=pl.getD i 0/\∀k,k<n->In pl (sl m (hs.getD (od.getD i 0) 0) k)
theorem qC_ {m:Nat} (hm:Msk m) (fg mv:Nat) (led plain:Bool) (hs:Array Int) (hl:hs.size<=m+1):
  ∃pl od,laid m fg mv led plain hs=some ({mask:=m,place:=pl,dummies:= #[],finger:=fg,led:=led,moves:=mv,plain:=plain},od)/\Laid m hs pl od:=by
 obtain⟨o,ss,e,l⟩:=mE_ hm hs hl;have ln:hs.toList.length=hs.size:=Ah;refine⟨((bh_ m o).map (·.1)).toArray,((bh_ m o).map (·.2)).toArray, ?_, ?_⟩
 .unfold laid;rw [e];rfl
 have at_:∀i (h:i<(bh_ m o).length),((bh_ m o).map (·.1)).toArray.getD i 0=(bh_ m o)[i].1/\((bh_ m o).map (·.2)).toArray.getD i 0=(bh_ m o)[i].2/\o[(bh_ m o)[i].1]? =some (some (bh_ m o)[i].2):=fun i h=>by
  refine⟨by simp [Array.getD,h],by simp [Array.getD,h],(gw_ l.size _ _).mp ?_⟩;exact CQ h
 have ris:Ris ((bh_ m o).map (·.1)).toArray:=fun i j hij hj=>by
  have hj':j<(bh_ m o).length:=by simpa using hj
  rw [(at_ i (by lia)).1,(at_ j hj').1];exact Bf.mp (qy_ m o) i j (by lia) hj' hij
 have sur:∀k,k<hs.size->∃i,∃h:i<(bh_ m o).length,(bh_ m o)[i].2=k/\(bh_ m o)[i].1=ss k:=fun k hk=>by
  have:=(gw_ l.size (ss k) k).mpr (l.at_ k (by rw [ln];exact hk)).2;obtain⟨i,hi,e⟩:=C4.mp this;exact⟨i,hi,by rw [e],by rw [e]⟩
 have size:(bh_ m o).length=hs.size:=by
  have h1:=fz_ (bh_ m o).length hs.size (fun i=>((bh_ m o).map (·.2)).toArray.getD i 0) fun k hk=>by
   obtain⟨i,hi,e,_⟩:=sur k hk;exact⟨i,hi,by rw [(at_ i hi).2.1,e]⟩
  have h2:=fz_ hs.size (bh_ m o).length (fun k=>below ((bh_ m o).map (·.1)).toArray (ss k)) fun i hi=>by
   obtain⟨a1,a2,a3⟩:=at_ i hi;obtain⟨b1,b2⟩:=l.of_ _ _ a3;refine⟨(bh_ m o)[i].2,by lia, ?_⟩;rw [b2,<-a1];exact kw_ ris (by simpa using hi)
  lia
 have inOcc:∀j,Occ o j->In ((bh_ m o).map (·.1)).toArray j:=fun j ⟨k,hk⟩=>by
  obtain⟨i,hi,e⟩:=C4.mp ((gw_ l.size j k).mpr hk);exact⟨i,by simpa using hi,by rw [(at_ i hi).1,e]⟩
 refine⟨by simpa using size,by simpa using size,ris,fun i hi=> ?_,fun i hi=> ?_,fun i j hi hj e=> ?_,fun k hk=> ?_,fun i hi=> ?_⟩
 .have hi':i<(bh_ m o).length:=by simpa using hi
  obtain⟨a1,a2,a3⟩:=at_ i hi';rw [a1];have:=(Bt.mp a3).1;have:=l.size;lia
 .obtain⟨a1,a2,a3⟩:=at_ i (by lia);rw [a2];have:=(l.of_ _ _ a3).1;lia
 .obtain⟨a1,a2,a3⟩:=at_ i (by lia);obtain⟨b1,b2,b3⟩:=at_ j (by lia);rw [a2,b2] at e;have e1:=(l.of_ _ _ a3).2;have e2:=(l.of_ _ _ b3).2;rw [e,e2] at e1;by_cases c:i<j
  .have:=ris i j c (by simp;lia);lia
  .by_cases c2:j<i
   .have:=ris j i c2 (by simp;lia);lia
   .lia
 .obtain⟨i,hi,e,_⟩:=sur k hk;exact⟨i,by lia,by rw [(at_ i hi).2.1,e]⟩
 .obtain⟨a1,a2,a3⟩:=at_ i (by lia);obtain⟨b1,b2⟩:=l.of_ _ _ a3;have hk:(bh_ m o)[i].2<hs.size:=by lia
  have eh:hs.toList[(bh_ m o)[i].2]? =some (hs.getD (bh_ m o)[i].2 0):=by simp [Array.getD,hk]
  obtain⟨n,e,q⟩:=l.reach _ _ eh;rw [a1,a2];exact⟨n,by rw [e,b2],fun k hk=>inOcc _ (q k hk)⟩
theorem pq_ {α β:Type}{f:α->Option β}{g:α->β}:∀(l:List α),(∀a∈l,f a=some (g a))->l.filterMap f=l.map g
 |[],_=>rfl
 |a::l,h=>by
  rw [List.filterMap_cons_some (h a (by simp)),AK,pq_ l fun b hb=>h b (by simp [hb])]
theorem q6_:sizeAbove 20=32:=by decide
theorem q5_:sizeAbove 76=128:=by decide
theorem Tb.again {t:SetTable}{es:Array (Int×Value)} (hm:(t.mask=7/\es.size=5)\/(t.mask=31/\es.size=19)):
  ∃pl od,t.relaid (es.map (·.1)) (grown es.size)=some ({mask:=sizeAbove (grown es.size)-1,place:=pl,dummies:= #[],finger:=t.finger,led:=t.led,moves:=t.movedTo (sizeAbove (grown es.size)-1),plain:=t.plain},od)/\
   Tb {mask:=sizeAbove (grown es.size)-1,place:=pl,dummies:= #[],finger:=t.finger,led:=t.led,moves:=t.movedTo (sizeAbove (grown es.size)-1),plain:=t.plain} (od.filterMap (es[·]?))/\
   (od.filterMap (es[·]?)).size=es.size/\(∀i,i<es.size->∃k,k<es.size/\(od.filterMap (es[·]?))[i]? =es[k]? /\k=od.getD i 0)/\
   (∀i j,i<es.size->j<es.size->od.getD i 0=od.getD j 0->i=j)/\(∀k,k<es.size->∃i,i<es.size/\od.getD i 0=k)/\
   es.size*5<(sizeAbove (grown es.size)-1)*3/\sizeAbove (grown es.size)<=sizeLine:=by
 have hM:Msk (sizeAbove (grown es.size)-1)/\es.size<=sizeAbove (grown es.size)-1+1/\es.size*5<(sizeAbove (grown es.size)-1)*3/\sizeAbove (grown es.size)<=sizeLine:=by
  rcases hm with⟨_,e⟩|⟨_,e⟩
  .rw [e,show grown 5=20 from rfl,q6_];exact⟨.inr (.inl rfl),by decide,by decide,by decide⟩
  .rw [e,show grown 19=76 from rfl,q5_];exact⟨.inr (.inr rfl),by decide,by decide,by decide⟩
 have sz:(es.map (·.1)).size=es.size:=Array.size_map;obtain⟨pl,od,e,L⟩:=qC_ hM.1 t.finger (t.movedTo (sizeAbove (grown es.size)-1)) t.led t.plain (es.map (·.1)) (by rw [sz];exact hM.2.1);have odlt:∀i,i<es.size->od.getD i 0<es.size:=fun i hi=>by have:=L.lt i (by rw [sz];exact hi);rw [sz] at this;exact this
 have ods:od.size=es.size:=by rw [L.os,sz]
 have fm:od.filterMap (es[·]?)=od.map fun k=>es.getD k (0, .none):=by
  apply Array.toList_inj.mp;rw [Array.toList_filterMap,Array.toList_map];refine pq_ _ fun k hk=> ?_;obtain⟨i,hi,ei⟩:=C4.mp hk;have hi':i<od.size:=by simpa using hi
  have:k<es.size:=by
   have:=odlt i (by lia);simp only [Array.getD,hi',dite_true] at this;simp only [Array.getElem_toList] at ei;rw [<-ei];exact this
  simp [Array.getD,this]
 have fs:(od.filterMap (es[·]?)).size=es.size:=by rw [fm,Array.size_map,ods]
 have fat:∀i,i<es.size->(od.filterMap (es[·]?))[i]? =es[od.getD i 0]? :=fun i hi=>by
  have h2:=odlt i hi;have hi':i<od.size:=by lia
  rw [fm,Array.getElem?_map];have e1:od[i]? =some (od.getD i 0):=by simp [Array.getD,hi']
  rw [e1];simp only [Option.map_some];generalize od.getD i 0=k at h2⊢;simp [Array.getD,h2]
 refine⟨pl,od,e,⟨hM.1,rfl,by rw [fs];show pl.size=_;rw [L.ps,sz],L.ris,L.bnd,fun i hi=> ?_⟩,fs,fun i hi=>⟨od.getD i 0,odlt i hi,fat i hi,rfl⟩,fun i j hi hj=>L.inj i j (by rw [sz];exact hi) (by rw [sz];exact hj),fun k hk=> ?_,hM.2.2⟩
 .rw [fs] at hi;obtain⟨n,e1,e2⟩:=L.reach i (by rw [sz];exact hi);have eh:(es.map (·.1)).getD (od.getD i 0) 0=hAt (od.filterMap (es[·]?)) i:=by
   unfold hAt;rw [fat i hi];have h2:=odlt i hi;generalize od.getD i 0=k at h2⊢;simp [Array.getD,h2]
  rw [eh] at e1 e2;exact⟨n,e1,e2⟩
 .obtain⟨i,hi,ei⟩:=L.sur k (by rw [sz];exact hk);exact⟨i,by rw [sz] at hi;exact hi,ei⟩
end L2
namespace L2
open PySem PySem.SetTable PySem.Spec PyProof.Rows
section
variable {prog:Program}{w:World}{A:Around}{E:Value->Shared->Prop}{s:Shared}
theorem j5_ {k:List Int}{vs:List Value} (h:ItemsAre (intKind prog w) k vs):∀v∈vs,∃n t,v= .int n t:=by
 induction h with
 |nil=>intro v hv;simp at hv
 | @cons k v' ks vs h1 _ ih=>
  intro v hv;rcases AJ.mp hv with rfl|hv
  .cases v with
   |int n t=>exact⟨n,t,rfl⟩
   |_=>exact absurd h1 (by simp [intKind,Value.isInt])
  .exact ih v hv
theorem eU_ {k:List Int}{x:Addr}{Q:Bool->Shared->Prop} (hx:IsTupleKey (intKind prog w) s.heap k x) (h:Q false s):
  wpAny (model prog w) A (ofAClassStatement 8 (.ref x)) Q E s:=by
 have hT:=hx.typeIs;obtain⟨o,items,n,ho,hc,hd,hi⟩:=hx;unfold ofAClassStatement;refine A0 (DF hT ?_);show wpAny _ _ ((if("tuple"=="tuple")=true then pure true else isSubtype (.type "tuple") (.type "tuple"))>>=_) _ _ s;refine A0 (A2 ?_);simp only [BE,AH,Am];refine A0 (Bi ho hd ?_);refine A0 ?_;show wpAny _ _ (forIn items _ _) _ _ s;rw [<-Ce];refine Bx _ (fun cl_ r s'=>r.1=none/\s'=s/\∀v∈cl_,∃n t,v=Value.int n t) _ ?_ ?_ _ _ ⟨rfl,rfl,j5_ hi⟩
 .rintro v cl_ r s' ⟨hr,rfl,hall⟩;obtain⟨n,t,rfl⟩:=hall v AX;refine A0 (D' (show ofAClassStatement 7 (.int n t)=pure false from by unfold ofAClassStatement;rfl) (A2 ?_));simp only [AH,Am];exact⟨trivial,trivial,fun u hu'=>hall u (AR _ hu')⟩
 .rintro⟨r1,r2⟩ s' ⟨hr,rfl,_⟩;simp only at hr;subst hr;exact A2 h
theorem nV_ {k:List Int}{x:Addr}{Q:Bool->Shared->Prop} (hx:IsTupleKey (intKind prog w) s.heap k x) (ys:List Value)
  (hy:∀y∈ys,∃b j,y= .ref b/\IsTupleKey (intKind prog w) s.heap j b) (h:Q false s):
  wpAny (model prog w) A (searchCouldBeSeen (.ref x) ys) Q E s:=by
 unfold searchCouldBeSeen;refine A0 ?_;refine Bx _ (fun cl_ r s'=>r.1=none/\s'=s/\∀v∈cl_,∃b j,v=Value.ref b/\IsTupleKey (intKind prog w) s.heap j b) _ ?_ ?_ _ _ ⟨rfl,rfl,hy⟩
 .rintro v cl_ r s' ⟨hr,rfl,hall⟩;obtain⟨b,j,rfl,hj⟩:=hall v AX;have hall':∀u∈cl_,∃b j,u=Value.ref b/\IsTupleKey (intKind prog w) s'.heap j b:=fun u hu'=>hall u (AR _ hu');dsimp only;split
  .exact A2 ⟨rfl,rfl,hall'⟩
  .refine A0 (wpAny_eqIsQuiet_tuple hx ?_);simp only [BE,AH,Am];refine A0 (wpAny_eqIsQuiet_tuple hj ?_);simp only [BE,AH,Am];refine A0 (eU_ hx ?_);simp only [AH,Am];refine A0 (eU_ hj ?_);simp only [AH,Am];exact A2 ⟨rfl,rfl,hall'⟩
 .rintro⟨r1,r2⟩ s' ⟨hr,rfl,_⟩;simp only at hr;subst hr;exact A2 h
structure Ent (prog:Program) (w:World) (h:Heap) (es:Array (Int×Value)):Prop where
 ent:∀i,i<es.size->∃k b,es[i]? =some (tupleKeyHash (intKind prog w) k, .ref b)/\IsTupleKey (intKind prog w) h k b
 dis:∀(i j:Nat) (k:List Int) (b c:Addr) (g g':Int),es[i]? =some (g,Value.ref b)->es[j]? =some (g',Value.ref c)->IsTupleKey (intKind prog w) h k b->IsTupleKey (intKind prog w) h k c->i=j
def ra_ (prog:Program) (w:World) (h:Heap) (es:Array (Int×Value)) (k:List Int):Prop:=∃(i:Nat) (b:Addr),es[i]? =some (tupleKeyHash (intKind prog w) k, .ref b)/\IsTupleKey (intKind prog w) h k b
theorem lJ_ (a:Addr) (x:Value) (h:Int) (adding:Bool) (fuel:Nat) (stand:Option Probe):setSearchFrom a x h adding (fuel+1) stand=(do
  let (es,_,t)<-setState a
  if t.gaveWay then unsupported "set:on-a-table-that-gave-way"
  let some met:=t.probe (hAt es) h (stand.getD (t.probeStart h))|unsupported "internal:set-table-without-an-empty-slot"
  match met with
  | .empty j dummy=>
   match dummy with
   |none=>return .free j false
   |some d=>
    if adding&&t.slot d != .dummy then rule "set.search.the-dummy-was-taken";return<-setSearchFrom a x h adding fuel none
    return .free d true
  | .candidate j i next=>
   if !t.led then
    if<-searchCouldBeSeen x ((es.filter (·.1==h)).toList.map (·.2)) then unsupported "set:the-search-would-show-the-table"
   let some (_,y):=es[i]? |unsupported "internal:set-entry"
   let equal<-holding [y] (eqBool y x)
   let (es',_,t')<-setState a
   if adding&&equal then return .there none
   let some same:=t'.sameMemory t.moves t.mask|unsupported "set.changed-during-lookup:is-the-new-block-at-the-old-address"
   let still<-match(if same then t'.slot j else .empty) with
    | .live i'=>match es'[i']? with
     |some (_,y')=>do pure (if<-isSame y' y then some i' else none)
     |none=>pure none
    |_=>pure none
   match still with
   |none=>rule "set.search.anew";setSearchFrom a x h adding fuel none
   |some i'=>if equal then return .there (some i') else setSearchFrom a x h adding fuel (some next)):=rfl
theorem j3_ {h:Heap}{es:Array (Int×Value)} (e:Ent prog w h es) {i:Nat} (hi:i<es.size) {k:List Int}{b:Addr}{g:Int} (he:es[i]? =some (g, .ref b)) (hk:IsTupleKey (intKind prog w) h k b):
  g=tupleKeyHash (intKind prog w) k:=by
 obtain⟨k',b',e',hk'⟩:=e.ent i hi;rw [e'] at he;simp only [B3,BM,Br] at he;obtain⟨rfl,rfl⟩:=he;rw [hk.inj hk']
theorem c3_ {α:Type}{xs:Array α}{i:Nat}{a:α} (h:xs[i]? =some a):i<xs.size:=by
 rcases Bj i xs.size with c|c
 .exact c
 .rw [Bc c] at h;exact nomatch h
theorem c6_ {es:Array (Int×Value)}{t:SetTable} (b:Tb t es) (hs:es.size<=t.mask):t.fits es.size=true:=by
 have h1:t.fill<=t.mask:=by
  unfold SetTable.fill;rw [b.dum,b.size];exact hs
 unfold SetTable.fits;rw [b.size,BF h1];simp
theorem fx_ {a:Addr}{o:Obj}{es:Array (Int×Value)}{ep:Nat}{t:SetTable} (ho:s.heap.get? a=some o) (hd:o.data= .set es ep t) (b:Tb t es) (hs:es.size<=t.mask)
  (hu:A.units<cLine) (en:Ent prog w s.heap es) {k:List Int}{x:Addr} (hx:IsTupleKey (intKind prog w) s.heap k x) {Q:SetFound->Shared->Prop}
  (hT:ra_ prog w s.heap es k->Q (.there none) s)
  (hF:∀n,¬In t.place (sl t.mask (tupleKeyHash (intKind prog w) k) n)->(∀j,j<n->In t.place (sl t.mask (tupleKeyHash (intKind prog w) k) j))->¬ra_ prog w s.heap es k->
   Q (.free (sl t.mask (tupleKeyHash (intKind prog w) k) n) false) s):
  ∀(fuel n0:Nat) (stand:Option Probe),(∃N,n0<=N/\N<n0+fuel/\¬In t.place (sl t.mask (tupleKeyHash (intKind prog w) k) N))->
   (∀j,j<n0->∃i,i<t.place.size/\t.place.getD i 0=sl t.mask (tupleKeyHash (intKind prog w) k) j/\∀g c,es[i]? =some (g,Value.ref c)->¬IsTupleKey (intKind prog w) s.heap k c)->
   stand.getD (t.probeStart (tupleKeyHash (intKind prog w) k))=pAt t.mask (tupleKeyHash (intKind prog w) k) n0->
   wpAny (model prog w) A (setSearchFrom a (.ref x) (tupleKeyHash (intKind prog w) k) true fuel stand) Q E s
 |0,n0,_,⟨N,h1,h2,_⟩,_,_=>absurd h2 (by lia)
 |fuel+1,n0,stand,⟨N,h1,h2,h3⟩,hp,hst=>by
  have hf:t.fits es.size=true:=c6_ b hs;have hw:t.gaveWay=false:=by
   unfold SetTable.gaveWay;rcases b.mask with e|e|e<;>rw [e]<;>rfl
  rw [lJ_];refine A0 (BL ho hd hf ?_);dsimp only;rw [hw,hst];simp only [AH,Am];obtain⟨n,hn,hq,hr⟩:=b.probe hs (hAt es) (tupleKeyHash (intKind prog w) k) n0;have hp':∀j,j<n->∃i,i<t.place.size/\t.place.getD i 0=sl t.mask (tupleKeyHash (intKind prog w) k) j/\∀g c,es[i]? =some (g,Value.ref c)->¬IsTupleKey (intKind prog w) s.heap k c:=by
   intro j hj;rcases Bj j n0 with c|c
   .exact hp j c
   .obtain⟨i,hi,ei,eh⟩:=hq j c hj;refine⟨i,hi,ei,fun g c e hk=> ?_⟩;have:=j3_ en (by rw [<-b.size];exact hi) e hk;unfold hAt at eh;rw [e] at eh;simp [this] at eh
  rcases hr with⟨r1,r2⟩|⟨i,hi,ei,eh,r2⟩
  .rw [r2];refine A2 (hF n r1 (fun j hj=> ?_) fun⟨i,c,e,hk⟩=> ?_)
   .obtain⟨i,hi,ei,_⟩:=hp' j hj;exact⟨i,hi,ei⟩
   .have hil:=c3_ e;obtain⟨m,em,hm⟩:=b.reach i hil;have eha:hAt es i=tupleKeyHash (intKind prog w) k:=by unfold hAt;rw [e];rfl
    rw [eha] at em hm;have hmn:m<n:=by
     rcases Bj m n with c|c
     .exact c
     .exfalso;rcases Bj n m with d|d
      .exact r1 (hm n d)
      .have:m=n:=by lia
       subst this;exact r1 ⟨i,by rw [b.size];exact hil,em.symm⟩
    obtain⟨i',hi',ei',hno⟩:=hp' m hmn;have:i'=i:=by
     rcases Nat.lt_trichotomy i' i with c|c|c
     .have:=b.ris i' i c (by rw [b.size];exact hil);lia
     .exact c
     .have:=b.ris i i' c hi';lia
    subst this;exact hno _ _ e hk
  .rw [r2];dsimp only;have hil:i<es.size:=by rw [<-b.size];exact hi
   obtain⟨k',y,ey,hy⟩:=en.ent i hil;have hSeen:∀y∈(es.filter (fun e=>e.1==tupleKeyHash (intKind prog w) k)).toList.map (·.2),∃b j,y=Value.ref b/\IsTupleKey (intKind prog w) s.heap j b:=by
    intro y hy;obtain⟨e,he,rfl⟩:=Af.mp hy;have he':e∈es:=by
     have:=Array.mem_toList_iff.mp he;exact(Array.mem_filter.mp this).1
    obtain⟨i,hi,ei⟩:=Array.mem_iff_getElem.mp he';obtain⟨k',y,ey,hy'⟩:=en.ent i hi;rw [Ai hi,ei] at ey;simp only [B3] at ey;subst ey;exact⟨y,k',rfl,hy'⟩
   have goal2:wpAny (model prog w) A (do
     let some (_,y):=es[i]? |unsupported "internal:set-entry"
     let equal<-holding [y] (eqBool y (.ref x))
     let (es',_,t')<-setState a
     if true&&equal then return SetFound.there none
     let some same:=t'.sameMemory t.moves t.mask|unsupported "set.changed-during-lookup:is-the-new-block-at-the-old-address"
     let still<-match(if same then t'.slot (sl t.mask (tupleKeyHash (intKind prog w) k) n) else .empty) with
      | .live i'=>match es'[i']? with
       |some (_,y')=>do pure (if<-isSame y' y then some i' else none)
       |none=>pure none
      |_=>pure none
     match still with
     |none=>rule "set.search.anew";setSearchFrom a (.ref x) (tupleKeyHash (intKind prog w) k) true fuel none
     |some i'=>if equal then return SetFound.there (some i') else setSearchFrom a (.ref x) (tupleKeyHash (intKind prog w) k) true fuel (some (pAt t.mask (tupleKeyHash (intKind prog w) k) (n+1)))) Q E s:=by
    rw [ey];dsimp only;refine A0 (Ar (wpAny_eqBool_tuple hu hy hx ?_));refine A0 (BL ho hd hf ?_);dsimp only;by_cases hkk:k'=k
    .subst hkk;rw [BF rfl];simp only [Bool.true_and,C2];exact A2 (hT ⟨i,y,ey,hy⟩)
    .rw [Ak hkk];simp only [DC,AH,Am];have hsm:t.sameMemory t.moves t.mask=some true:=by unfold SetTable.sameMemory;simp
     rw [hsm];dsimp only;rw [A7 rfl,<-ei,g5_ b.ris hi];dsimp only;rw [ey];dsimp only;refine A0 ?_;refine wpAny_isSame_ref_self ?_;simp only [C2];refine fx_ ho hd b hs hu en hx hT hF fuel (n+1) _ ⟨N, ?_,by lia,h3⟩ ?_ rfl
     .have:n≠N:=fun e=>h3 (by rw [<-e];exact⟨i,hi,ei⟩);have:¬N<n:=fun c=>by
       obtain⟨i',hi',ei',_⟩:=hp' N c;exact h3 ⟨i',hi',ei'⟩
      lia
     .intro j hj;rcases Bj j n with c|c
      .exact hp' j c
      .have:j=n:=by lia
       subst this;refine⟨i,hi,ei,fun g c e hk=>hkk ?_⟩;rw [ey] at e;simp only [B3,BM,Br] at e;obtain⟨_,rfl⟩:=e;exact hy.inj hk
   cases hl:t.led with
   |true=>simpa only [BE,AH,Am] using goal2
   |false=>
    simp only [Cq,C2];refine A0 (nV_ hx _ hSeen ?_);simp only [AH,Am];exact goal2
def nE_ (h:Heap) (S:Addr) (led:Bool) (es:Array (Int×Value)):Prop:=
 ∃ep t,h.get? S=some {cls:= .type "set",dict:=none,data:= .set es ep t}/\Tb t es/\t.led=led/\t.plain=true/\es.size*5<t.mask*3
theorem ii_ {h:Heap}{a:Addr}{es:Array (Int×Value)}{ep:Nat}{t:SetTable} (ho:h.get? a=some {cls:= .type "set",dict:=none,data:= .set es ep t}) (es':Array (Int×Value)) (t':SetTable):
  (h.update a (Obj.putSet es' t')).get? a=some {cls:= .type "set",dict:=none,data:= .set es' (ep+1) t'}:=by
 have:=C5 (Obj.putSet es' t') ho (by rw [putSet_of es' t' rfl];rfl);rw [putSet_of es' t' rfl] at this;exact this
theorem pi_ {h h':Heap}{S:Addr}{o o':Obj}{es es':Array (Int×Value)}{ep ep':Nat}{t t':SetTable} (q:Heap.SameBut S h h') (e:h.get? S=some o) (hd:o.data= .set es ep t)
  (e':h'.get? S=some o') (hd':o'.data= .set es' ep' t') (k:List Int) (x:Addr):
  IsTupleKey (intKind prog w) h k x↔IsTupleKey (intKind prog w) h' k x:=by
 constructor
 .rintro⟨o,items,n,ho,hc,hdd,hi⟩;refine⟨o,items,n,(q.2 x fun z=> ?_).trans ho,hc,hdd,hi⟩;subst z;rw [ho,B3] at e;subst e;rw [hd] at hdd;exact nomatch hdd
 .rintro⟨o,items,n,ho,hc,hdd,hi⟩;refine⟨o,items,n,(q.2 x fun z=> ?_).symm.trans ho,hc,hdd,hi⟩;subst z;rw [ho,B3] at e';subst e';rw [hd'] at hdd;exact nomatch hdd
theorem jm_ {k:List Int}{x:Addr}{Q:Bool->Shared->Prop} (hx:IsTupleKey (intKind prog w) s.heap k x) (h:Q true s):
  wpAny (model prog w) A (hashByValue 8 (.ref x)) Q E s:=by
 have hT:=hx.typeIs;obtain⟨o,items,n,ho,hc,hd,hi⟩:=hx;unfold hashByValue;refine A0 (CI hT D3.lookup ?_);dsimp only;refine A0 (Bi ho hd ?_);refine A0 ?_;show wpAny _ _ (forIn items _ _) _ _ s;rw [<-Ce];refine Bx _ (fun cl_ r s'=>r.1=none/\s'=s/\∀v∈cl_,∃n t,v=Value.int n t) _ ?_ ?_ _ _ ⟨rfl,rfl,j5_ hi⟩
 .rintro v cl_ r s' ⟨hr,rfl,hall⟩;obtain⟨n,t,rfl⟩:=hall v AX;refine A0 (D' (show hashByValue 7 (.int n t)=pure true from by unfold hashByValue;rfl) (A2 ?_));simp only [BE,AH,Am];exact⟨trivial,trivial,fun u hu'=>hall u (AR _ hu')⟩
 .rintro⟨r1,r2⟩ s' ⟨hr,rfl,_⟩;simp only at hr;subst hr;exact A2 h
theorem Ent.perm {h h':Heap}{es es':Array (Int×Value)} (en:Ent prog w h es) (hk:∀k x,IsTupleKey (intKind prog w) h k x↔IsTupleKey (intKind prog w) h' k x) (f:Nat->Nat)
  (hf:∀i,i<es'.size->f i<es.size/\es'[i]? =es[f i]?) (hj:∀i j,i<es'.size->j<es'.size->f i=f j->i=j):Ent prog w h' es':=by
 refine⟨fun i hi=> ?_,fun i j k b c g g' e1 e2 k1 k2=> ?_⟩
 .obtain⟨k,b,e,q⟩:=en.ent (f i) (hf i hi).1;exact⟨k,b,by rw [(hf i hi).2];exact e,(hk _ _).mp q⟩
 .have l1:=c3_ e1;have l2:=c3_ e2;rw [(hf i l1).2] at e1;rw [(hf j l2).2] at e2;exact hj i j l1 l2 (en.dis _ _ k b c g g' e1 e2 ((hk _ _).mpr k1) ((hk _ _).mpr k2))
theorem Ent.insert {h h':Heap}{es:Array (Int×Value)} (en:Ent prog w h es) (hk:∀k x,IsTupleKey (intKind prog w) h k x↔IsTupleKey (intKind prog w) h' k x) {p:Nat} (hp:p<=es.size) {k:List Int}{x:Addr}
  (hx:IsTupleKey (intKind prog w) h k x) (hno:¬ra_ prog w h es k):Ent prog w h' (insertAt es p (tupleKeyHash (intKind prog w) k, .ref x)):=by
 have old:∀(i:Nat) (k':List Int) (b:Addr) (g:Int),es[i]? =some (g,Value.ref b)->IsTupleKey (intKind prog w) h k' b->k'≠k:=by
  rintro i k' b g e q rfl;exact hno ⟨i,b,by rw [e,j3_ en (c3_ e) e q],q⟩
 refine⟨fun i hi=> ?_,fun i j k' b c g g' e1 e2 k1 k2=> ?_⟩
 .rw [bj_ hp] at hi;rw [ei_ hp];by_cases c1:i<p
  .rw [A7 c1];obtain⟨k',b,e,q⟩:=en.ent i (by lia);exact⟨k',b,e,(hk _ _).mp q⟩
  .rw [A5 c1];by_cases c2:i=p
   .rw [A7 c2];exact⟨k,x,rfl,(hk _ _).mp hx⟩
   .rw [A5 c2];obtain⟨k',b,e,q⟩:=en.ent (i-1) (by lia);exact⟨k',b,e,(hk _ _).mp q⟩
 .rw [ei_ hp] at e1 e2;have k1':=(hk _ _).mpr k1;have k2':=(hk _ _).mpr k2;have new:∀(b:Addr) (g:Int),some (tupleKeyHash (intKind prog w) k,Value.ref x)=some (g,Value.ref b)->IsTupleKey (intKind prog w) h k' b->k'=k:=by
   intro b g e q;simp only [B3,BM,Br] at e;obtain⟨_,rfl⟩:=e;exact q.inj hx
  by_cases a1:i<p
  .rw [A7 a1] at e1;by_cases b1:j<p
   .rw [A7 b1] at e2;exact en.dis _ _ _ _ _ _ _ e1 e2 k1' k2'
   .rw [A5 b1] at e2;by_cases b2:j=p
    .rw [A7 b2] at e2;exact absurd (new _ _ e2 k2') (old _ _ _ _ e1 k1')
    .rw [A5 b2] at e2;have:=en.dis _ _ _ _ _ _ _ e1 e2 k1' k2';lia
  .rw [A5 a1] at e1;by_cases a2:i=p
   .rw [A7 a2] at e1;by_cases b1:j<p
    .rw [A7 b1] at e2;exact absurd (new _ _ e1 k1') (old _ _ _ _ e2 k2')
    .rw [A5 b1] at e2;by_cases b2:j=p
     .lia
     .rw [A5 b2] at e2;exact absurd (new _ _ e1 k1') (old _ _ _ _ e2 k2')
   .rw [A5 a2] at e1;by_cases b1:j<p
    .rw [A7 b1] at e2;have:=en.dis _ _ _ _ _ _ _ e1 e2 k1' k2';lia
    .rw [A5 b1] at e2;by_cases b2:j=p
     .rw [A7 b2] at e2;exact absurd (new _ _ e2 k2') (old _ _ _ _ e1 k1')
     .rw [A5 b2] at e2;have:=en.dis _ _ _ _ _ _ _ e1 e2 k1' k2';lia
theorem mN_ {es:Array (Int×Value)}{p:Nat} (hp:p<=es.size) (x v:Int×Value):(∃i:Nat,(insertAt es p x)[i]? =some v)↔(∃i:Nat,es[i]? =some v)\/v=x:=by
 constructor
 .rintro⟨i,e⟩;rw [ei_ hp] at e;split at e
  .exact .inl ⟨_,e⟩
  .split at e
   .rw [B3] at e;exact .inr e.symm
   .exact .inl ⟨_,e⟩
 .rintro(⟨i,e⟩|rfl)
  .by_cases c:i<p
   .exact⟨i,by rw [ei_ hp,A7 c];exact e⟩
   .exact⟨i+1,by rw [ei_ hp,A5 (by lia),A5 (by lia)];exact e⟩
  .exact⟨p,by rw [ei_ hp,A5 (by lia),A7 rfl]⟩
theorem n0_ (a:Addr) (wanted:Nat):setRelay a wanted=(do
  let (es,_,t)<-setState a
  if SetTable.sizeAbove wanted>sizeLine then unsupported "set:memory"
  let (es,t)<-(do
   let some (t,order):=t.relaid (es.map (·.1)) wanted|unsupported "internal:set-table-without-room"
   let es':=order.filterMap (es[·]?)
   if es'.size !=es.size then unsupported "internal:set-table-lost-an-element"
   pure (es',t):Sem (Array (Int×Value)×SetTable))
  storeSet a es t):=rfl
theorem q4_ {S:Addr}{led:Bool}{es:Array (Int×Value)} (hS:nE_ s.heap S led es) (en:Ent prog w s.heap es) {k:List Int}{x:Addr} (hx:IsTupleKey (intKind prog w) s.heap k x)
  (hu:A.units<cLine) (h64:es.size<64) {Q:Bool->Shared->Prop}
  (h:∀b h' es',Heap.SameBut S s.heap h'->nE_ h' S led es'->Ent prog w h' es'->
   (ra_ prog w s.heap es k/\es'=es\/¬ra_ prog w s.heap es k/\es'.size=es.size+1/\∀v,(∃i:Nat,es'[i]? =some v)↔(∃i:Nat,es[i]? =some v)\/v=(tupleKeyHash (intKind prog w) k, .ref x))->Q b {s with heap:=h'}):
  wpAny (model prog w) A (setAddHashed S (.ref x) (tupleKeyHash (intKind prog w) k)) Q E s:=by
 have hS0:=hS;obtain⟨ep,t,ho,b,hl,hp,hr⟩:=hS;have hs:es.size<=t.mask:=by lia
 have hf:=c6_ b hs;unfold setAddHashed setAddHashedIn;refine Ar (A0 (BL ho rfl hf ?_));dsimp only;have hsc:byScan (.ref x) es=false:=by unfold byScan;simp [Value.scannable]
 rw [hsc];simp only [AH,Am];unfold setSearch;obtain⟨e,he,hn⟩:=b.free hs;obtain⟨n1,h1,h2,h3⟩:=uG_ b.mask (tupleKeyHash (intKind prog w) k) 0 he;have ht:10*turns t.mask<100000:=by
  unfold turns;rcases b.mask with e|e|e<;>rw [e]<;>decide
 refine A0 (fx_ ho rfl b hs hu en hx (fun hk=> ?_) (fun n ha hb hno=> ?_) 100000 0 none ⟨n1,h1,by lia,by rw [h3];exact hn⟩ (fun j hj=>absurd hj (by lia)) rfl)
 .exact A2 (h false s.heap es (Heap.SameBut.refl _ _) hS0 en (.inl ⟨hk,rfl⟩))
 .dsimp only;refine A0 (BL ho rfl hf ?_);dsimp only;have T1:=b.add (tupleKeyHash (intKind prog w) k) (.ref x) n ha (rO_ _ _ _) hb;have hpl:below t.place (sl t.mask (tupleKeyHash (intKind prog w) k) n)<=es.size:=by rw [<-b.size];exact(dL_ b.ris _).1
  have put:=o6_ t b.dum (sl t.mask (tupleKeyHash (intKind prog w) k) n);rw [put] at T1⊢;dsimp only at T1⊢;rw [A7 hp];refine A0 (jm_ hx ?_);simp only [C2];generalize hpp:below t.place (sl t.mask (tupleKeyHash (intKind prog w) k) n)=p at T1 hpl⊢;generalize htt:({t with place:=insertAt t.place p (sl t.mask (tupleKeyHash (intKind prog w) k) n)}:SetTable)=t1 at T1⊢;have tm:t1.mask=t.mask:=by rw [<-htt]
  have tl:t1.led=led:=by rw [<-htt];exact hl
  have tp:t1.plain=true:=by rw [<-htt];exact hp
  have z1:(insertAt es p (tupleKeyHash (intKind prog w) k,Value.ref x)).size=es.size+1:=bj_ hpl _;have hsl:sizeLine>=4096:=by rw [Aw];decide
  refine A0 (wpAny_storeSet_of ho rfl ?_ (by rw [z1];lia));have ho1:=(ii_ ho (insertAt es p (tupleKeyHash (intKind prog w) k,Value.ref x)) t1);have sb1:=B9 s.heap S (Obj.putSet (insertAt es p (tupleKeyHash (intKind prog w) k,Value.ref x)) t1);generalize s.heap.update S (Obj.putSet (insertAt es p (tupleKeyHash (intKind prog w) k,Value.ref x)) t1)=h1 at ho1 sb1⊢;have s1:t1.place.size=es.size+1:=by rw [T1.size,z1]
  have fl:t1.fill=es.size+1:=by unfold SetTable.fill;rw [T1.dum,s1];rfl
  have hk1:∀k x,IsTupleKey (intKind prog w) s.heap k x↔IsTupleKey (intKind prog w) h1 k x:=fun k x=>pi_ sb1 ho rfl ho1 rfl k x;have en1:=en.insert hk1 hpl hx hno;by_cases full:t1.tooFull=true
  .rw [full];simp only [Cq,Bool.and_self,C2];have fe:(es.size+1)*5>=t.mask*3:=by
    unfold SetTable.tooFull at full;rw [fl,tm] at full;simpa using full
   have hm:(t1.mask=7/\(insertAt es p (tupleKeyHash (intKind prog w) k,Value.ref x)).size=5)\/(t1.mask=31/\(insertAt es p (tupleKeyHash (intKind prog w) k,Value.ref x)).size=19):=by
    rw [z1,tm];rcases b.mask with e|e|e<;>lia
   obtain⟨pl,od,r1,r2,r3,r4,r5,r6,r7,r8⟩:=Tb.again hm;rw [<-z1,n0_];have hf1:t1.fits (insertAt es p (tupleKeyHash (intKind prog w) k,Value.ref x)).size=true:=c6_ T1 (by rcases hm with⟨e1,e2⟩|⟨e1,e2⟩<;>lia)
   refine A0 ?_;refine A0 (BL (s:={s with heap:=h1}) ho1 rfl hf1 ?_);dsimp only;rw [A5 (by lia)];rw [r1];dsimp only;rw [show((od.filterMap ((insertAt es p (tupleKeyHash (intKind prog w) k,Value.ref x))[·]?)).size !=(insertAt es p (tupleKeyHash (intKind prog w) k,Value.ref x)).size)=false from by rw [r3];simp];simp only [AH,Am];refine A0 (A2 ?_);refine wpAny_storeSet_of (s:={s with heap:=h1}) ho1 rfl ?_ (by rw [r3,z1];lia);have ho2:=(ii_ ho1 (od.filterMap ((insertAt es p (tupleKeyHash (intKind prog w) k,Value.ref x))[·]?)) {mask:=sizeAbove (grown (insertAt es p (tupleKeyHash (intKind prog w) k,Value.ref x)).size)-1,place:=pl,dummies:= #[],finger:=t1.finger,led:=t1.led,moves:=t1.movedTo (sizeAbove (grown (insertAt es p (tupleKeyHash (intKind prog w) k,Value.ref x)).size)-1),plain:=t1.plain});have sb2:=B9 h1 S (Obj.putSet (od.filterMap ((insertAt es p (tupleKeyHash (intKind prog w) k,Value.ref x))[·]?)) {mask:=sizeAbove (grown (insertAt es p (tupleKeyHash (intKind prog w) k,Value.ref x)).size)-1,place:=pl,dummies:= #[],finger:=t1.finger,led:=t1.led,moves:=t1.movedTo (sizeAbove (grown (insertAt es p (tupleKeyHash (intKind prog w) k,Value.ref x)).size)-1),plain:=t1.plain});dsimp only at ho2 sb2⊢;generalize h1.update S _=h2 at ho2 sb2⊢;have hk2:∀k x,IsTupleKey (intKind prog w) h1 k x↔IsTupleKey (intKind prog w) h2 k x:=fun k x=>pi_ sb2 ho1 rfl ho2 rfl k x;refine A2 (h true h2 _ (sb1.trans sb2) ⟨_,_,ho2,r2,tl,tp,by rw [r3];exact r7⟩ (en1.perm hk2 (fun i=>od.getD i 0) (fun i hi=> ?_) fun i j hi hj e=>r5 i j (by rw [<-r3];exact hi) (by rw [<-r3];exact hj) e) (.inr ⟨hno,by rw [r3,z1],fun v=> ?_⟩))
   .rw [r3] at hi;obtain⟨q,q1,q2,q3⟩:=r4 i hi;rw [<-q3];exact⟨q1,q2⟩
   .rw [<-mN_ hpl];constructor
    .rintro⟨i,e⟩;obtain⟨q,q1,q2,q3⟩:=r4 i (by rw [<-r3];exact c3_ e);exact⟨q,by rw [<-q2];exact e⟩
    .rintro⟨i,e⟩;obtain⟨i',hi',e'⟩:=r6 i (c3_ e);obtain⟨q,q1,q2,q3⟩:=r4 i' hi';exact⟨i',by rw [q2,q3,e'];exact e⟩
  .rw [show t1.tooFull=false from by simpa using full];simp only [Cq,DC,AH,Am];have fe:(es.size+1)*5<t1.mask*3:=by
    unfold SetTable.tooFull at full;rw [fl] at full;simpa using full
   exact A2 (h true h1 _ sb1 ⟨_,_,ho1,T1,tl,tp,by rw [z1];exact fe⟩ en1 (.inr ⟨hno,z1,fun v=>mN_ hpl _ _⟩))
end
end L2
namespace L2
open PySem PySem.SetTable PySem.Spec PyProof.Rows
section
variable {prog:Program}{w:World}{A:Around}{E:Value->Shared->Prop}{s:Shared}
theorem Ent.mv {h h':Heap}{es:Array (Int×Value)} (en:Ent prog w h es) (hk:∀(i:Nat) (k:List Int) (g:Int) (x:Addr),es[i]? =some (g,Value.ref x)->IsTupleKey (intKind prog w) h k x->IsTupleKey (intKind prog w) h' k x):Ent prog w h' es:=by
 refine⟨fun i hi=> ?_,fun i j k b c g g' e1 e2 k1 k2=> ?_⟩
 .obtain⟨k,b,e,q⟩:=en.ent i hi;exact⟨k,b,e,hk i k _ b e q⟩
 .obtain⟨k',b',e1',q1⟩:=en.ent i (c3_ e1);obtain⟨k'',b'',e2',q2⟩:=en.ent j (c3_ e2);rw [e1] at e1';rw [e2] at e2';simp only [B3,BM,Br] at e1' e2';obtain⟨rfl,rfl⟩:=e1';obtain⟨rfl,rfl⟩:=e2';have:=k1.inj (hk i k' _ b e1 q1);subst this;have:=k2.inj (hk j k'' _ c e2 q2);subst this;exact en.dis i j _ _ _ _ _ e1 e2 q1 q2
structure Made (prog:Program) (w:World) (kk:Nat->List Int) (ad:Nat->Addr) (i:Nat) (es:Array (Int×Value)):Prop where
 size:es.size<=i
 from_:∀(p:Nat) (v:Int×Value),es[p]? =some v->∃j,j<i/\v=(tupleKeyHash (intKind prog w) (kk j),Value.ref (ad j))
 all:∀j,j<i->∃(p j':Nat),j'<i/\kk j'=kk j/\es[p]? =some (tupleKeyHash (intKind prog w) (kk j'),Value.ref (ad j'))
theorem Made.step {kk:Nat->List Int}{ad:Nat->Addr}{i:Nat}{es es':Array (Int×Value)}{h:Heap} (m:Made prog w kk ad i es) (en:Ent prog w h es) (hkk:∀j,j<=i->IsTupleKey (intKind prog w) h (kk j) (ad j))
  (c:ra_ prog w h es (kk i)/\es'=es\/¬ra_ prog w h es (kk i)/\es'.size=es.size+1/\∀v,(∃p:Nat,es'[p]? =some v)↔(∃p:Nat,es[p]? =some v)\/v=(tupleKeyHash (intKind prog w) (kk i), .ref (ad i))):
  Made prog w kk ad (i+1) es':=by
 rcases c with⟨⟨p,b,e,q⟩,rfl⟩|⟨_,z,mem⟩
 .refine⟨Nat.le_succ_of_le m.size,fun p v e=> ?_,fun j hj=> ?_⟩
  .obtain⟨j,hj,ev⟩:=m.from_ p v e;exact⟨j,by lia,ev⟩
  .by_cases c:j<i
   .obtain⟨p,j',hj',ek,ev⟩:=m.all j c;exact⟨p,j',by lia,ek,ev⟩
   .have:j=i:=by lia
    subst this;obtain⟨j',hj',ev⟩:=m.from_ p _ e;simp only [BM,Br] at ev;obtain⟨_,rfl⟩:=ev;have:=q.inj (hkk j' (by lia));exact⟨p,j',by lia,this.symm,by rw [e,this]⟩
 .refine⟨by rw [z];have:=m.size;lia,fun p v e=> ?_,fun j hj=> ?_⟩
  .rcases(mem v).mp ⟨p,e⟩ with⟨p',e'⟩|e'
   .obtain⟨j,hj,ev⟩:=m.from_ p' v e';exact⟨j,by lia,ev⟩
   .exact⟨i,by lia,e'⟩
  .by_cases c:j<i
   .obtain⟨p,j',hj',ek,ev⟩:=m.all j c;obtain⟨p',e'⟩:=(mem _).mpr (.inl ⟨p,ev⟩);exact⟨p',j',by lia,ek,e'⟩
   .have:j=i:=by lia
    subst this;obtain⟨p',e'⟩:=(mem _).mpr (.inr rfl);exact⟨p',j,by lia,rfl,e'⟩
theorem nE_.mv {h h':Heap}{S:Addr}{led:Bool}{es:Array (Int×Value)} (a:nE_ h S led es) (e:∀o,h.get? S=some o->h'.get? S=some o):nE_ h' S led es:=by
 obtain⟨ep,t,ho,r⟩:=a;exact⟨ep,t,e _ ho,r⟩
theorem hM_ {h h':Heap}{k:List Int}{x:Addr} (q:IsTupleKey (intKind prog w) h k x) (e:∀o,h.get? x=some o->h'.get? x=some o):IsTupleKey (intKind prog w) h' k x:=by
 obtain⟨o,items,n,ho,r⟩:=q;exact⟨o,items,n,e _ ho,r⟩
theorem nM_ {R:Result->Shared->Prop}{I:Addr}{fp wr:List Addr}{G:Array GenState->Array GenState->Prop}{n:Nat}{P:Nat->Value->Prop}{St:Nat->Shared->Prop}
  (Wq:WalksS prog w A.in1 I fp wr G n P St) (S:Addr) (hSf:S∉fp) (hu:A.in1.units<cLine) (led:Bool)
  (kk:Nat->List Int) (ad:Nat->Addr) (hval:∀i v,P i v->v= .ref (ad i)) (hwr:∀i,i<n->ad i∉wr) (hb:n<64):
  ∀(k i:Nat) (s:Shared) (es:Array (Int×Value)),n-i=k->i<=n->St i s->nE_ s.heap S led es->Ent prog w s.heap es->Made prog w kk ad i es->(∀j,j<n->IsTupleKey (intKind prog w) s.heap (kk j) (ad j))->
   (∀s' es',Moved (S::wr) G s s'->nE_ s'.heap S led es'->Ent prog w s'.heap es'->Made prog w kk ad n es'->R (.ok (.ret .none)) s')->
   codeAny (model prog w) A (.builtin "set.update.loop" ⟨[.ref S, .ref I],[]⟩) R s:=by
 have hSw:S∉wr:=fun h=>hSf (Wq.sub _ h);have hsub:∀b∈wr,b∈S::wr:=fun b hb=>AR _ hb;intro k;induction k with
 |zero=>
  intro i s es hk hi hst hS en mk hkk hR;have hin:i=n:=by lia
  subst hin;refine Bq F.entry_set_update_loop ?_;rw [Bp F.plain_set_update_loop _];show wpAny _ A.in1 (pyNext (.ref I)>>=_) _ _ s;refine A0 (Wq.done s _ _ hst fun s' hm=> ?_);show wpAny _ A.in1 (ret Value.none) _ _ s';refine A2 (hR s' es (hm.mono hsub) (hS.mv fun o e=>hm.heap S o hSw e) (en.mv fun p k g x e q=>hM_ q fun o e'=> ?_) mk);obtain⟨j,hj,ev⟩:=mk.from_ p _ e;simp only [BM,Br] at ev;obtain⟨_,rfl⟩:=ev;exact hm.heap _ o (hwr j hj) e'
 |succ k ih=>
  intro i s es hk hi hst hS en mk hkk hR;have hlt:i<n:=by lia
  refine Bq F.entry_set_update_loop ?_;rw [Bp F.plain_set_update_loop _];show wpAny _ A.in1 (pyNext (.ref I)>>=_) _ _ s;refine A0 (Wq.item i s _ _ hlt hst fun v s' hP hst' hm=> ?_);obtain rfl:=hval i v hP;have hS':nE_ s'.heap S led es:=hS.mv fun o e=>hm.heap S o hSw e;have hkk':∀j,j<n->IsTupleKey (intKind prog w) s'.heap (kk j) (ad j):=fun j hj=>hM_ (hkk j hj) fun o e=>hm.heap _ o (hwr j hj) e;have en':Ent prog w s'.heap es:=en.mv fun p k g x e q=>hM_ q fun o e'=>by
   obtain⟨j,hj,ev⟩:=mk.from_ p _ e;simp only [BM,Br] at ev;obtain⟨_,rfl⟩:=ev;exact hm.heap _ o (hwr j (by lia)) e'
  show wpAny _ A.in1 (holding [Value.ref (ad i)] (setAdd S (.ref (ad i)))>>=_) _ _ s';refine A0 (Ar ?_);unfold setAdd;refine Ar ?_;refine A0 (wpAny_pyHash_tuple hu (hkk' i hlt) ?_);refine q4_ (s:={s' with toks:=s'.toks+((kk i).length+1)}) hS' en' (hkk' i hlt) hu (by have:=mk.size;lia) fun b h' es' hsb hS2 en2 c=> ?_;have hkS:∀j,j<n->ad j≠S:=by
   intro j hj e;obtain⟨o,items,m,ho,_,hd,_⟩:=hkk' j hj;obtain⟨ep,t,ho',_⟩:=hS';rw [e,ho',B3] at ho;subst ho;exact nomatch hd
  refine A2 ⟨D9 F.plain_set_update_loop _,ih (i+1) _ es' (by lia) hlt (Wq.frame _ s' _ _ hst' (Nat.le_add_right _ _) fun b hb o e=> ?_) hS2 en2 (mk.step en' (fun j hj=>hkk' j (by lia)) c) (fun j hj=>hM_ (hkk' j hj) fun o e=> ?_) fun s'' es'' hm'' hS'' en'' mk''=> ?_⟩
  .rw [hsb.2 b (fun h:b=S=>hSf (by rw [<-h];exact hb))];exact e
  .show h'.get? _=_;rw [hsb.2 _ (hkS j hj)];exact e
  .refine hR s'' es'' (Moved.trans Wq.gtrans ((hm.mono hsub).then_heap (Nat.le_add_right _ _) fun b o hb e=> ?_) hm'') hS'' en'' mk'';rw [hsb.2 b (fun h:b=S=>hb (by rw [h];exact AX))];exact e
theorem qr_ (a:Value) {Q₁:Value->Shared->Prop}
  (h:Q₁ (.ref s.heap.objs.size) {s with heap:=s.heap.push {cls:= .type "set",dict:=none,data:= .set #[] 0 (.fresh 0 0 (!w.params.followText "set-order"))}}):
  codeAny (model prog w) A (.call (.builtin "set.__new__") ⟨[.type "set",a],[]⟩) (wants Q₁ E) s:=by
 refine codeAny_of_tree ?_;show wpAny _ A.in1 (do checkBuiltinCall "set.__new__" ⟨[.type "set",a],[]⟩;again (.builtin "set.__new__" ⟨[.type "set",a],[]⟩)) _ _ s;refine A0 (D' (F.newCall_set_1 a) (A2 ⟨D9 F.plain_set_new _,Bq F.entry_set_new ?_⟩));rw [Bp F.plain_set_new _];unfold Builtin.«set.__new__» Builtin.Frozenset.newClass;have hsub:=sub_set_self;obtain⟨hp,g,d,tk,os⟩:=s;dsimp only
 wp_walk
 refine D7 (A2 ?_);dsimp only;simp only [newObj];refine A0 (wpAny_alloc (A2 ?_));exact A2 h
theorem oC_ (led:Bool):Tb (.fresh 0 0 led) #[]:=
 ⟨.inl rfl,rfl,rfl,fun i j _ h=>absurd h (by show¬j<0;lia),fun i h=>absurd h (by show¬i<0;lia),fun i h=>absurd h (by show¬i<0;lia)⟩
set_option maxHeartbeats 3200000 in
theorem h8_ {l:Addr}{items:Array Value}{kk:Nat->List Int}{ad:Nat->Addr}{Q:Value->Shared->Prop}
  (hh:A.handled=none) (hu:A.units+8<cLine) (hl:s.heap.IsList l items) (hn:items.size<64)
  (hk:∀i,i<items.size->items[i]? =some (.ref (ad i))/\IsTupleKey (intKind prog w) s.heap (kk i) (ad i))
  (h:∀(h':Heap) (tk:Nat) (es:Array (Int×Value)),nE_ h' s.heap.objs.size (!w.params.followText "set-order") es->Ent prog w h' es->Made prog w kk ad items.size es->
   (∀b o,b<s.heap.objs.size->s.heap.get? b=some o->h'.get? b=some o)->Q (.ref s.heap.objs.size) {s with heap:=h',toks:=tk}):
  wpAny (model prog w) A (call (.type "set") [.ref l]) Q E s:=by
 obtain⟨c,tl,hmro⟩:=Cd.mro;have hmade:=Cd.made;have hsub:=Cd.sub;refine wpAny_call (codeAny_of_tree ?_);show wpAny _ _ (callAny (.type "set") _) _ _ _;refine A2 ⟨Code.quiet_builtin _ (by ac_nf),Bq F.entry_type_call ?_⟩;rw [Around.under_plain (weight_type_call_type "set" [.ref l] []) rfl];have h1:=Cd.notType;have h2:=Cd.canCreate;have hct:=F.typeCall_set_1 (.ref l)
 repeat (any_goals (first|assumption|wp_step))
 refine DG (qr_ (.ref l) (E:=E) (Q₁:=fun obj s₁=>obj= .ref s.heap.objs.size/\s₁={s with heap:=s.heap.push {cls:= .type "set",dict:=none,data:= .set #[] 0 (.fresh 0 0 (!w.params.followText "set-order"))}}) ⟨rfl,rfl⟩) fun r s₁ hr=> ?_;generalize (!w.params.followText "set-order")=led at h hr;cases r with
 |error e=>exact hr
 |ok fl=>
  cases fl with
  |ret obj=>
   obtain⟨rfl,rfl⟩:=hr;have hS:(s.heap.push {cls:= .type "set",dict:=none,data:= .set #[] 0 (.fresh 0 0 led)}).get? s.heap.objs.size=some {cls:= .type "set",dict:=none,data:= .set #[] 0 (.fresh 0 0 led)}:=AF _ rfl;have hT:Shared.TypeIs {s with heap:=s.heap.push {cls:= .type "set",dict:=none,data:= .set #[] 0 (.fresh 0 0 led)}} (.ref s.heap.objs.size) "set":=⟨_,hS,rfl⟩;have hli:=Cd.init.lookup;have hbi:=Cd.init.bind (.ref s.heap.objs.size)
   repeat (any_goals (first|assumption|wp_step))
   refine DG (codeAny_call_builtin (R:=wants (fun r s₂=>r= .none/\∃h' tk es,s₂={s with heap:=h',toks:=tk}/\
     nE_ h' s.heap.objs.size led es/\Ent prog w h' es/\Made prog w kk ad items.size es/\
     (∀b o,b<s.heap.objs.size->s.heap.get? b=some o->h'.get? b=some o)) E) Cd.init.plain F.entry_set_init (check_set_init_1 hT ?_)) fun r₂ s₂ hr₂=> ?_
   .obtain⟨ol,hol,hcl,nl,hdl⟩:=hl;obtain⟨ocls,odict,odata,oslots⟩:=ol;simp only at hcl hdl;subst hcl;subst hdl;have hol':(s.heap.push {cls:= .type "set",dict:=none,data:= .set #[] 0 (.fresh 0 0 led)}).get? l=some {cls:= .type "list",dict:=odict,data:= .seq items nl,slots:=oslots}:=A6 _ hol;have hsls:=F.sub_list_set;have hslf:=F.sub_list_frozenset;have hne:(Value.type "list"==Value.type "dict")=false:=by decide
    have hl1:(s.heap.push {cls:= .type "set",dict:=none,data:= .set #[] 0 (.fresh 0 0 led)}).IsList l items:=⟨_,hol',rfl,nl,rfl⟩;unfold Builtin.«set.__init__» noKeywords Builtin.Frozenset.updateFrom;generalize hPI:pyIter=PI
    wp_walk
    subst hPI;refine wpAny_pyIter_list hl1 ?_;refine A0 (wpAny_runValue ?_);have hlS:l<s.heap.objs.size:=AI hol;have hh3:A.in1.in1.in1.handled=none:=by simp [hh]
    have hneI:l≠(s.heap.push {cls:= .type "set",dict:=none,data:= .set #[] 0 (.fresh 0 0 led)}).objs.size:=by
     rw [Az];exact AL (Ad hlS)
    have hSf:s.heap.objs.size∉[(s.heap.push {cls:= .type "set",dict:=none,data:= .set #[] 0 (.fresh 0 0 led)}).objs.size,l]:=by
     rw [Az];simp only [AJ,AS,As,Bo,not_or];exact⟨AL (BP _),BW hlS⟩
    refine nM_ ((Walks.list hh3 _ l hneI items).toS) s.heap.objs.size
     hSf ?hu led kk ad ?hval ?hwr hn (items.size-0) 0 _ #[] (by lia) (AM _)
     ⟨⟨_,AF _ rfl,rfl,rfl⟩,(hl1.push _)⟩ ?hS0 ?hE0 ?hM0 ?hkk ?hR
    case hu=>show A.units+3<cLine;lia
    case hval=>
     intro i v hv;have hi:i<items.size:=c3_ hv;rw [(hk i hi).1,B3] at hv;exact hv.symm
    case hwr=>
     intro i hi;obtain⟨o,_,_,ho,_⟩:=(hk i hi).2;have:=AI ho;rw [Az];simp only [AJ,As,Bo];exact AL (Ad this)
    case hS0=>exact⟨_,_,A6 _ hS,oC_ led,rfl,rfl,by show 0*5<7*3;decide⟩
    case hE0=>exact⟨fun i hi=>absurd hi (by show¬i<0;lia),fun i j k b c g g' e=>by simp at e⟩
    case hM0=>exact⟨AA 0,fun p v e=>by simp at e,fun j hj=>absurd hj (by lia)⟩
    case hkk=>exact fun j hj=>hM_ (hk j hj).2 fun o e=>A6 _ (A6 _ e)
    case hR=>
     intro s' es' hm hS' en' mk';obtain⟨h',g',d',tk',os'⟩:=s';have eg:g'=s.gens:=hm.gens;have ed:d'=s.drawn:=hm.drawn;have eo:os'=s.os:=hm.os;subst eg;subst ed;subst eo;show wpAny _ _ _ _ _ _;refine A2 ?_;show wpAny _ _ (ret Value.none) _ _ _;refine A2 ⟨rfl,h',tk',es',rfl,hS',en',mk',fun b o hb e=> ?_⟩;have hb1:b≠s.heap.objs.size:=AL hb;have hb2:b≠(s.heap.push {cls:= .type "set",dict:=none,data:= .set #[] 0 (.fresh 0 0 led)}).objs.size:=by
      rw [Az];exact AL (Ad hb)
     exact hm.heap b o (by simp only [AJ,AS,As,Bo,not_or];exact⟨hb1,hb2⟩) (A6 _ (A6 _ e))
   .cases r₂ with
    |error e=>exact hr₂
    |ok fl₂=>
     cases fl₂ with
     |ret r=>
      obtain⟨rfl,h',tk,es,rfl,hS',en',mk',hk'⟩:=hr₂
      repeat (any_goals (first|assumption|wp_step))
      exact h _ _ _ hS' en' mk' hk'
     |_=>exact hr₂.elim
  |_=>exact hr.elim
end
end L2
namespace L2
open PySem PySem.SetTable PySem.Spec PyProof.Rows
theorem e8_:entryFor table "set.__iter__"=some Builtin.«frozenset.__iter__»:=
 entryFor_alias (id':="frozenset.__iter__") (by kernel_rfl) rfl (by ac_nf) (by kernel_rfl)
theorem cW_:Slot "set_iterator" "__iter__" "set_iterator.__iter__":=
 .of (owner:="set_iterator") (n:="__iter__") (by rw [typeLookup_type,builtinLookup_eq_fast];kernel_rfl) (by ac_nf) (by ac_nf) (by ac_nf)
  (by first|exact .inl (by ac_nf)|exact .inr (by ac_nf)) (by rw [isSubtype_type];kernel_rfl)
theorem e7_:entryFor table "set_iterator.__iter__"=some Builtin.«dict_keyiterator.__iter__»:=
 entryFor_alias (id':="dict_keyiterator.__iter__") (by kernel_rfl) rfl (by ac_nf) (by kernel_rfl)
theorem fr_ (a:Value):argsOk "set_iterator.__iter__" ⟨[a],[]⟩:=by unfold argsOk;kernel_rfl
theorem aW_:Slot "set_iterator" "__next__" "set_iterator.__next__":=
 .of (owner:="set_iterator") (n:="__next__") (by rw [typeLookup_type,builtinLookup_eq_fast];kernel_rfl) (by ac_nf) (by ac_nf) (by ac_nf)
  (by first|exact .inl (by ac_nf)|exact .inr (by ac_nf)) (by rw [isSubtype_type];kernel_rfl)
theorem cL_:entryFor table "set_iterator.__next__"=some Builtin.«set_iterator.__next__»:=entryFor_of_tree (by kernel_rfl)
theorem c5_ (a:Value):argsOk "set_iterator.__next__" ⟨[a],[]⟩:=by unfold argsOk;kernel_rfl
theorem m1_ {α:Type}:∀(l:List α) (i:Nat) (h:i<l.length),([l[i]]++l.eraseIdx i).Perm l
 |[],i,h=>absurd h (by simp)
 |a::l,0,h=>by simp
 |a::l,i+1,h=>by
  have hi:i<l.length:=by simpa using h
  have:=m1_ l i hi;simp only [List.getElem_cons_succ,List.eraseIdx_cons_succ,List.singleton_append] at this⊢;exact(List.Perm.swap a l[i] _).trans (this.cons a)
theorem ma_ {α:Type} (next:Nat->Nat):∀(f k:Nat) (left:List α) (out:Array α),left.length=f->(pickOrder.go next f k left out).toList.Perm (out.toList++left)
 |0,k,left,out,e=>by
  have:left=[]:=Cf.mp e;subst this;unfold pickOrder.go;simp
 |f+1,k,left,out,e=>by
  have hp:next k%left.length<left.length:=DA _ (by lia);unfold pickOrder.go;rw [A3 hp];dsimp only;refine(ma_ next f (k+1) _ _ (by rw [List.length_eraseIdx_of_lt hp];lia)).trans ?_;rw [Array.toList_push,BA];refine List.Perm.append_left _ ?_;exact m1_ left _ hp
theorem l9_ {α:Type} (next:Nat->Nat) (xs:Array α):(pickOrder next xs).toList.Perm xs.toList:=by
 unfold pickOrder;simpa using ma_ next xs.size 0 xs.toList #[] (by simp)
def nK_ (w:World) (a:Addr) (ep:Nat) (es:Array (Int×Value)):Array (Int×Value):=if w.params.followText "set-order" then pickOrder (w.params.setOrder a ep) es else es
theorem lo_ (w:World) (a:Addr) (ep:Nat) (es:Array (Int×Value)):(nK_ w a ep es).toList.Perm es.toList:=by
 unfold nK_;split
 .exact l9_ _ _
 .exact List.Perm.refl _
theorem is_ (w:World) (a:Addr) (ep:Nat) (es:Array (Int×Value)):(nK_ w a ep es).size=es.size:=by
 have:=(lo_ w a ep es).length_eq;simpa using this
def fe_ (w:World) (t:SetTable) (i:Nat):Nat:=if w.params.followText "set-order" then 0 else if i=0 then 0 else t.place.getD (i-1) 0+1
theorem ie_ {xs:Array Nat} (r:Ris xs) {j p:Nat} (hp:p<=xs.size) (h1:∀i,i<p->xs.getD i 0<j) (h2:∀i,p<=i->i<xs.size->j<=xs.getD i 0):below xs j=p:=by
 obtain⟨a1,a2,a3⟩:=dL_ r j;rcases Nat.lt_trichotomy (below xs j) p with c|c|c
 .have:=h1 _ c;have:=a3 _ (AA _) (by lia);lia
 .exact c
 .have:=a2 _ c;have:=h2 p (AA _) (by lia);lia
theorem oQ_ {t:SetTable} (r:Ris t.place) {i:Nat} (hi:i<=t.place.size):below t.place (if i=0 then 0 else t.place.getD (i-1) 0+1)=i:=by
 by_cases z:i=0
 .subst z;exact ie_ r (AM _) (fun i h=>absurd h (by lia)) fun i _ _=>AM _
 .rw [A5 z];refine ie_ r hi (fun j hj=> ?_) fun j h1 h2=> ?_
  .rcases Bj j (i-1) with c|c
   .have:=r j (i-1) c (by lia);lia
   .have:j=i-1:=by lia
    subst this;lia
  .have:=r (i-1) j (by lia) h2;lia
section
variable {prog:Program}{w:World}{A:Around}{E:Value->Shared->Prop}{s:Shared}
theorem qq_ (a:Addr) (slot given epochThen:Nat):setNext a slot given epochThen=(do
  let (es,epoch,t)<-setState a
  if<-setsByText then
   if epoch !=epochThen then unsupported "set_iterator.__next__:elements-changed"
   return ((<-setWalk a)[given]?).map fun e=>(e.2,slot)
  if !t.plain&&es.size>1 then unsupported "set_iterator.__next__:the-table-is-plain-no-more"
  (do if !t.led&& !es.isEmpty then unsupported "set:maker-not-led":Sem Unit)
  let i:=SetTable.below t.place slot
  return match es[i]?,t.place[i]? with
   |some (_,x),some j=>some (x,j+1)
   |_,_=>none):=rfl
theorem jA_ {S:Addr}{es:Array (Int×Value)}{ep:Nat}{t:SetTable}{i:Nat}{Q:Option (Value×Nat)->Shared->Prop}
  (ho:s.heap.get? S=some {cls:= .type "set",dict:=none,data:= .set es ep t}) (b:Tb t es) (hs:es.size<=t.mask) (hl:t.led= !w.params.followText "set-order") (hp:t.plain=true) (hi:i<=es.size)
  (h:Q (((nK_ w S ep es)[i]?).map fun e=>(e.2,fe_ w t (i+1))) s):wpAny (model prog w) A (setNext S (fe_ w t i) i ep) Q E s:=by
 have hf:=c6_ b hs;rw [qq_];refine A0 (BL ho rfl hf ?_);dsimp only;unfold setsByText;refine A0 (A0 (D7 (A2 ?_)));show wpAny _ _ (if(w.params.followText "set-order")=true then _ else _) _ _ s;unfold nK_ fe_ at h;unfold fe_;cases ht:w.params.followText "set-order" with
 |true=>
  rw [ht] at h;simp only [C2] at h⊢;simp only [Cm,AH,Am];unfold setWalk;refine A0 (A0 (BL ho rfl hf ?_));dsimp only;unfold setsByText;refine A0 (A0 (D7 (A2 ?_)));show wpAny _ _ (if(w.params.followText "set-order")=true then _ else _) _ _ s;rw [ht];simp only [C2];refine A0 (D7 (A2 ?_));exact A2 h
 |false=>
  rw [ht] at h hl;simp only [AH,Am] at h⊢;rw [hp,hl];simp only [BE,Cq,Bool.false_and,AH,Am];refine A0 (A2 ?_);rw [oQ_ b.ris (by rw [b.size];exact hi)];refine A2 ?_;rcases Bj i es.size with c|c
  .have c':i<t.place.size:=by rw [b.size];exact c
   have e2:t.place.getD (i+1-1) 0=t.place[i]:=by simp [Array.getD,c']
   rw [Ai c] at h⊢;rw [Ai c'];rw [A5 (by lia),e2] at h;exact h
  .rw [Bc c] at h⊢;exact h
def fs_ (h:Heap) (it S:Addr) (slot i n ep:Nat):Prop:=∃o,h.get? it=some o/\o.cls= .type "set_iterator"/\o.data= .fields #[.int slot 0, .int i 0, .ref S, .int n 0, .int ep 0]
theorem fs_.typeIs {it S:Addr}{slot i n ep:Nat} (x:fs_ s.heap it S slot i n ep):s.TypeIs (.ref it) "set_iterator":=let ⟨o,ho,hc,_⟩:=x;⟨o,ho,hc⟩
theorem fs_.mv {h h':Heap}{it S:Addr}{slot i n ep:Nat} (x:fs_ h it S slot i n ep) (e:∀o,h.get? it=some o->h'.get? it=some o):fs_ h' it S slot i n ep:=let ⟨o,ho,r⟩:=x;⟨o,e _ ho,r⟩
theorem ou_ {S:Addr}{es:Array (Int×Value)}{ep:Nat}{t:SetTable}{Q:Value->Shared->Prop}
  (ho:s.heap.get? S=some {cls:= .type "set",dict:=none,data:= .set es ep t}) (b:Tb t es) (hs:es.size<=t.mask) (hp:t.plain=true)
  (h:Q (.ref s.heap.objs.size) {s with heap:=s.heap.push {cls:= .type "set_iterator",data:= .fields #[.int (fe_ w t 0:Nat) 0, .int (0:Nat) 0, .ref S, .int es.size 0, .int ep 0]}}):
  wpAny (model prog w) A (pyIter (.ref S)) Q E s:=by
 have hT:s.TypeIs (.ref S) "set":=⟨_,ho,rfl⟩;have hf:=c6_ b hs;refine wpAny_pyIter_slot hT F.slot_set_iter (Ab F.slot_set_iter hT e8_ ?_ (F.args_set_iter_1 _));unfold Builtin.«frozenset.__iter__» Builtin.Frozenset.slot0 slotArgs;simp only [List.isEmpty_nil,BE,AH,↓reduceIte,bind_assoc,List.length_nil,Cm];unfold Builtin.Frozenset.addrOf Builtin.Frozenset.sizeOf setEntries;refine A0 (A2 ?_);try dsimp only
 refine A0 (A2 ?_);refine A0 (A0 (A0 (BL ho rfl hf (A2 (A2 ?_)))));have hdr:∀{Q':Bool->Shared->Prop},Q' false s->wpAny (model prog w) A.in1 (setDrawn S) Q' E s:=by
  intro Q' q;unfold setDrawn;refine A0 (BL ho rfl hf ?_);dsimp only;unfold setsByText;refine A0 (A0 (D7 (A2 ?_)));refine A2 ?_;have:(!t.plain&&decide (es.size>1))=false:=by rw [hp];rfl
  show Q' (!w.params.followText "set-order"&&(!t.plain&&decide (es.size>1))) s;rw [this,DC];exact q
 refine A0 (hdr ?_);simp only [AH,Am];refine A0 (A2 ?_);refine A0 (wpAny_setEpoch_of ho rfl hf ?_);unfold newFields;refine A0 (Aq (A2 ⟨_,rfl,"set_iterator",_,⟨_,AF _ rfl,rfl⟩,aW_.lookup, ?_⟩));have e0:fe_ w t 0=0:=by unfold fe_;split<;>rfl
 rw [e0] at h;simpa [rawInt] using h
theorem fN_ {h:Heap}{a:Addr}{o:Obj}{vs:Array Value} (ho:h.get? a=some o) (hd:o.data= .fields vs) (f:Array Value->Array Value):
  ∃o',(h.update a (Obj.mapFields f)).get? a=some o'/\o'.cls=o.cls/\o'.data= .fields (f vs):=
 ⟨_,C5 _ ho (D6 (Bm hd _)),Obj.cls_mapFields ..,Bm hd _⟩
theorem lI_ {it S:Addr}{es:Array (Int×Value)}{ep:Nat}{t:SetTable}{i:Nat}{e:Int×Value}{Q:Option Value->Shared->Prop} (hit:fs_ s.heap it S (fe_ w t i) i es.size ep)
  (ho:s.heap.get? S=some {cls:= .type "set",dict:=none,data:= .set es ep t}) (b:Tb t es) (hs:es.size<=t.mask) (hl:t.led= !w.params.followText "set-order") (hp:t.plain=true) (hi:i<es.size)
  (he:(nK_ w S ep es)[i]? =some e) (hQ:∀h',fs_ h' it S (fe_ w t (i+1)) (i+1) es.size ep->Heap.SameBut it s.heap h'->Q (some e.2) {s with heap:=h'}):
  wpAny (model prog w) A (pyNext (.ref it)) Q E s:=by
 obtain⟨o,hoi,hc,hd⟩:=id hit;have hf:=c6_ b hs;unfold pyNext;refine A0 (Bv (Ax (name:=Str.ofString "__next__") hit.typeIs aW_
  (Ab aW_ hit.typeIs cL_ ?_ (c5_ _))))
 show wpAny _ _ (fieldsOf (.ref it)>>=_) _ _ s;refine A0 (D1 hoi hd ?_);dsimp only;unfold setEntries;refine A0 (A0 (BL ho rfl hf (A2 ?_)));dsimp only;rw [A5 (by simp)];simp only [Ap];refine A0 (jA_ ho b hs hl hp (An hi) ?_);rw [he];dsimp only [Option.map_some];refine A0 (C1 hoi hd (by simp) ?_);obtain⟨o1,ho1,hc1,hd1⟩:=fN_ hoi hd (·.setIfInBounds 0 (rawInt (fe_ w t (i+1):Nat)));have sb1:=B9 s.heap it (Obj.mapFields (·.setIfInBounds 0 (rawInt (fe_ w t (i+1):Nat))));generalize s.heap.update it (Obj.mapFields (·.setIfInBounds 0 (rawInt (fe_ w t (i+1):Nat))))=h1 at ho1 sb1⊢;refine A0 (C1 (s:={s with heap:=h1}) ho1 hd1 (by simp) ?_);obtain⟨o2,ho2,hc2,hd2⟩:=fN_ ho1 hd1 (·.setIfInBounds 1 (rawInt ((i:Int)+1)));have sb2:=B9 h1 it (Obj.mapFields (·.setIfInBounds 1 (rawInt ((i:Int)+1))));dsimp only;generalize h1.update it (Obj.mapFields (·.setIfInBounds 1 (rawInt ((i:Int)+1))))=h2 at ho2 sb2⊢;refine A2 ⟨_,rfl,A2 (hQ _ ⟨o2,ho2,by rw [hc2,hc1,hc], ?_⟩ (sb1.trans sb2))⟩;rw [hd2];simp [rawInt]
theorem nT_ {it S:Addr}{es:Array (Int×Value)}{ep:Nat}{t:SetTable}{Q:Option Value->Shared->Prop} (hh:A.handled=none) (hit:fs_ s.heap it S (fe_ w t es.size) es.size es.size ep)
  (ho:s.heap.get? S=some {cls:= .type "set",dict:=none,data:= .set es ep t}) (b:Tb t es) (hs:es.size<=t.mask) (hl:t.led= !w.params.followText "set-order") (hp:t.plain=true)
  (hQ:∀h',Heap.ExtBut it s.heap h'->Q none {s with heap:=h'}):
  wpAny (model prog w) A (pyNext (.ref it)) Q E s:=by
 obtain⟨o,hoi,hc,hd⟩:=id hit;have hf:=c6_ b hs;unfold pyNext;refine A0 (Bv (Ax (name:=Str.ofString "__next__") hit.typeIs aW_
  (Ab aW_ hit.typeIs cL_ ?_ (c5_ _))))
 show wpAny _ _ (fieldsOf (.ref it)>>=_) _ _ s;refine A0 (D1 hoi hd ?_);dsimp only;unfold setEntries;refine A0 (A0 (BL ho rfl hf (A2 ?_)));dsimp only;rw [A5 (by simp)];simp only [Ap];refine A0 (jA_ ho b hs hl hp (AA _) ?_);rw [Bc (by rw [is_];exact AA _)];dsimp only [Option.map_none];refine A0 (C1 hoi hd (by simp) ?_);show wpAny _ _ (newExc (.type "StopIteration") []>>=_) _ _ _;refine A0 ?_;simp only [newExc,newTuple];refine A0 (Aq ?_ (by size_fits));refine A0 (m:=firstArgMember _ _) (D' (a:=Value.none) (by first|rfl|(simp only [firstArgMember];rfl)) ?_);refine Aq ?_ (by size_fits);simp only [raiseNew];refine A0 (wpAny_handled ?_);rw [show A.in1.handled=none from hh];refine A0 (A2 (wpAny_throw ?_));refine A0 (Bw (T:="StopIteration") (b:=true) ⟨_,AF _ rfl,rfl⟩ isSubtype_stop ?_);exact A2 (hQ _ (((B9 ..).extBut.push _).push _))
theorem nL_ (hh:A.handled=none) (I S:Addr) (hne:S≠I) {es:Array (Int×Value)}{ep:Nat}{t:SetTable} (b:Tb t es) (hs:es.size<=t.mask) (hl:t.led= !w.params.followText "set-order") (hp:t.plain=true):
  Walks prog w A I [I,S] [I] es.size (fun i v=>∃e,(nK_ w S ep es)[i]? =some e/\v=e.2) (fun i h=>fs_ h I S (fe_ w t i) i es.size ep/\h.get? S=some {cls:= .type "set",dict:=none,data:= .set es ep t}) where
 sub:=fun b hb=>by simp at hb;simp [hb]
 frame:=fun _ _ _ st hk=>⟨st.1.mv fun o e=>hk I (by simp) o e,hk S (by simp) _ st.2⟩
 item:=fun i s Q E hi st hQ=>by
  have hi':i<(nK_ w S ep es).size:=by rw [is_];exact hi
  refine lI_ st.1 st.2 b hs hl hp hi (Ai hi') fun h' hit' hs'=> ?_;exact hQ _ h' s.toks ⟨_,Ai hi',rfl⟩ ⟨hit',hs'.extBut S _ hne st.2⟩ fun b o hb e=>hs'.extBut b o (fun h=>hb (by simp [h])) e
 done:=fun s Q E st hQ=>nT_ hh st.1 st.2 b hs hl hp fun h' he'=>hQ h' s.toks fun b o hb e=>he' b o (fun h=>hb (by simp [h])) e
 self:=fun _ s _ _ st hQ=>by
  refine wpAny_pyIter_slot st.1.typeIs cW_ (Ab cW_ st.1.typeIs e7_ ?_ (fr_ _));show wpAny _ _ (ret (.ref I)) _ _ s;exact A2 ⟨_,rfl,"set_iterator",_,st.1.typeIs,aW_.lookup,hQ⟩
end
end L2
namespace L2
open PySem PySem.SetTable PySem.Spec PyProof.Rows PySem.W
section
variable {prog:Program}{w:World}{A:Around}{E:Value->Shared->Prop}{s:Shared}
theorem jj_ {S:Addr}{es:Array (Int×Value)}{ep:Nat}{t:SetTable}{Q:List Value->Shared->Prop} (hh:A.handled=none)
  (ho:s.heap.get? S=some {cls:= .type "set",dict:=none,data:= .set es ep t}) (b:Tb t es) (hs:es.size<=t.mask) (hl:t.led= !w.params.followText "set-order") (hp:t.plain=true)
  (hQ:∀h' tk vs,(∀b o,s.heap.get? b=some o->h'.get? b=some o)->s.heap.objs.size<=h'.objs.size->vs.Perm (es.toList.map (·.2))->Q vs {s with heap:=h',toks:=tk}):
  wpAny (model prog w) A (collect (.ref S)) Q E s:=by
 unfold collect;refine A0 (wpAny_runValue (Bq F.entry_proto_collect ?_));rw [Bp F.plain_proto_collect _];show wpAny _ A.in1 (newList []>>=fun l=>again (.builtin "list.__iadd__" ⟨[l, .ref S],[]⟩)) _ _ s;refine A0 (Aq ?_);refine A2 ⟨D9 F.plain_list_iadd _,Bq F.entry_list_iadd ?_⟩;rw [Bp F.plain_list_iadd _];show wpAny _ A.in1 (Builtin.List.listExtendWith (.ref s.heap.objs.size) (.ref S) (.ref s.heap.objs.size)) _ _ _;have hS:S<s.heap.objs.size:=AI ho;have ho1:(s.heap.push {cls:= .type "list",data:= .seq ([]:List Value).toArray}).get? S=some {cls:= .type "set",dict:=none,data:= .set es ep t}:=A6 _ ho;have hT:Shared.TypeIs {s with heap:=s.heap.push {cls:= .type "list",data:= .seq ([]:List Value).toArray}} (.ref S) "set":=⟨_,ho1,rfl⟩;unfold Builtin.List.listExtendWith;refine A0 (DF hT ?_);have h1:Builtin.List.listSameRef (.ref s.heap.objs.size) (.ref S)=false:=by
  show(s.heap.objs.size==S)=false;exact CU.mpr (BW hS)
 have h2:(Value.type "set"==Value.type "list")=false:=by decide
 have h3:(Value.type "set"==Value.type "tuple")=false:=by decide
 simp only [h1,h2,h3,Bool.or_false,AH,Am];refine A0 (ou_ ho1 b hs hp ?_);refine A0 (Ar ?_);unfold Builtin.List.listLengthHint;generalize hH:s.heap.push {cls:= .type "list",data:= .seq ([]:List Value).toArray}=H at ho1 hT⊢;have hHs:H.objs.size=s.heap.objs.size+1:=by rw [<-hH,Az]
 have hT2:Shared.TypeIs {s with heap:=H.push {cls:= .type "set_iterator",data:= .fields #[.int (fe_ w t 0:Nat) 0, .int (0:Nat) 0, .ref S, .int es.size 0, .int ep 0]}} (.ref S) "set":=⟨_,A6 _ ho1,rfl⟩;refine A0 (CI hT2 F.slot_set_len.lookup ?_)
 wp_delta
 refine A0 (Bw (b:=true) hT2 (by rw [isSubtype_type];kernel_rfl) ?_);show wpAny _ A.in1 (typeOf (.ref S)>>=_) _ _ _;refine A0 (DF hT2 ?_);refine A2 ?_;rw [A7 (by decide)];refine A0 (CB ?_);unfold Builtin.List.listTouch;have hne:S≠H.objs.size:=by rw [hHs];exact AL (Ad hS)
 have hI0:fs_ (H.push {cls:= .type "set_iterator",data:= .fields #[.int (fe_ w t 0:Nat) 0, .int (0:Nat) 0, .ref S, .int es.size 0, .int ep 0]}) H.objs.size S (fe_ w t 0) 0 es.size ep:=⟨_,AF _ rfl,rfl,rfl⟩;have hL:(H.push {cls:= .type "set_iterator",data:= .fields #[.int (fe_ w t 0:Nat) 0, .int (0:Nat) 0, .ref S, .int es.size 0, .int ep 0]}).get? s.heap.objs.size=some (seqObj "list" #[] 0):=A6 _ (hH▸AF _ rfl);have hS2:(H.push {cls:= .type "set_iterator",data:= .fields #[.int (fe_ w t 0:Nat) 0, .int (0:Nat) 0, .ref S, .int es.size 0, .int ep 0]}).get? S=some {cls:= .type "set",dict:=none,data:= .set es ep t}:=A6 _ ho1;have hold:∀b o,s.heap.get? b=some o->(H.push {cls:= .type "set_iterator",data:= .fields #[.int (fe_ w t 0:Nat) 0, .int (0:Nat) 0, .ref S, .int es.size 0, .int ep 0]}).get? b=some o:=fun b o e=>A6 _ (hH▸A6 _ e);have hsz:(H.push {cls:= .type "set_iterator",data:= .fields #[.int (fe_ w t 0:Nat) 0, .int (0:Nat) 0, .ref S, .int es.size 0, .int ep 0]}).objs.size=s.heap.objs.size+2:=by rw [Az,hHs]
 generalize H.push {cls:= .type "set_iterator",data:= .fields #[.int (fe_ w t 0:Nat) 0, .int (0:Nat) 0, .ref S, .int es.size 0, .int ep 0]}=H1 at hI0 hL hS2 hold hsz⊢;refine A0 (A0 (Ca (s:={s with heap:=H1}) hL rfl ?_ (AM _) (by decide)));have hL1:=CW hL (fun x=>x.push Value.none);have hu1:∀b,b≠s.heap.objs.size->(H1.update s.heap.objs.size (Obj.mapSeq fun x=>x.push Value.none)).get? b=H1.get? b:=(B9 H1 s.heap.objs.size _).2;dsimp only;generalize H1.update s.heap.objs.size (Obj.mapSeq fun x=>x.push Value.none)=H2 at hL1 hu1⊢;refine Ca (s:={s with heap:=H2}) hL1 rfl ?_ (by simp [Aw]) (by simp);have hL2:=CW hL1 (fun x=>x.pop);have hu2:∀b,b≠s.heap.objs.size->(H2.update s.heap.objs.size (Obj.mapSeq fun x=>x.pop)).get? b=H2.get? b:=(B9 H2 s.heap.objs.size _).2;dsimp only;generalize H2.update s.heap.objs.size (Obj.mapSeq fun x=>x.pop)=H3 at hL2 hu2⊢;have hk3:∀b o,b≠s.heap.objs.size->H1.get? b=some o->H3.get? b=some o:=fun b o hb e=>by rw [hu2 b hb,hu1 b hb];exact e
 have hSf:s.heap.objs.size∉[H.objs.size,S]:=by
  rw [hHs];simp only [AJ,As,Bo,not_or];exact⟨AL (BP _),BW hS⟩
 have hSn:S≠s.heap.objs.size:=AL hS;have hHn:H.objs.size≠s.heap.objs.size:=by rw [hHs];exact BW (BP _)
 refine A2 ⟨D9 F.plain_extend_loop _,codeAny_extend_loopS (nL_ (A:=A.in1) (ep:=ep) hh H.objs.size S hne b hs hl hp).toS ?_ _ hSf _ es.size 0 _ _ _ rfl (AM _) ⟨hI0.mv fun o e=>hk3 _ o hHn e,hk3 S _ hSn hS2⟩ hL2 (ItemsOf.nil _) fun s' acc' c' hm hS' hacc=> ?_⟩
 .have:es.size<=127:=by rcases b.mask with e|e|e<;>lia
  rw [Aw];lia
 show wpAny _ A (load s.heap.objs.size>>=_) _ _ s';refine A0 (wpAny_load hS' ?_);obtain⟨h',g',d',tk',os'⟩:=s';have eg:g'=s.gens:=hm.gens;have ed:d'=s.drawn:=hm.drawn;have eo:os'=s.os:=hm.os;subst eg;subst ed;subst eo;refine A2 (hQ h' tk' acc'.toList (fun b o e=> ?_) (An (AI hS')) ?_)
 .have hlt:=AI e;refine hm.heap b o (fun hb=> ?_) (hk3 b o (AL hlt) (hold b o e));simp only [AJ,As,Bo] at hb;rcases hb with hb|hb
  .exact absurd hlt (by rw [hb];exact Bk _)
  .rw [hb,hHs] at hlt;exact absurd hlt (Nat.not_lt.mpr (C3 _))
 .have:acc'.toList=(nK_ w S ep es).toList.map (·.2):=by
   apply List.ext_getElem?;intro i;rw [A9,Bu,Bu];rcases Bj i es.size with c|c
   .have hi:i<acc'.size:=by rw [hacc.1];exact c
    obtain⟨e,he,hv⟩:=hacc.2 i _ (Ai hi);rw [Ai hi,hv,he];rfl
   .rw [Bc (by rw [hacc.1];exact c),Bc (by rw [is_];exact c)];rfl
  rw [this];exact(lo_ w S ep es).map _
abbrev lsH (h:Heap) (vs:List Value):Heap:=h.push (seqObj "list" vs.toArray 0)
theorem hx_ (h:Heap) (vs:List Value):(lsH h vs).get? h.objs.size=some (seqObj "list" vs.toArray 0):=AF _ rfl
theorem gt_ {h:Heap}{vs:List Value}{b:Addr}{o:Obj} (hb:h.get? b=some o):(aK_ (lsH h vs) h.objs.size vs).get? b=some o:=by
 have hlt:b<h.objs.size:=AI hb;have n0:b≠h.objs.size:=AL hlt;have n1:b≠h.objs.size+1:=AL (Ad hlt);have n2:b≠h.objs.size+1+1:=AL (Ad (Ad hlt));rw [B5 _ _ _ (by rw [Bl,B1,Bl];exact n2),B5 _ _ _ (by rw [B1,Bl];exact n1),DE _ _ _ _ n0,B5 _ _ _ n0];exact hb
theorem hw_ {h:Heap}{vs:List Value}{out:Array Value}{b:Addr}{o:Obj} (hb:h.get? b=some o):(sortedHeap (lsH h vs) h.objs.size vs out).get? b=some o:=by
 unfold sortedHeap;rw [DE _ _ _ _ (AL (AI hb))];exact gt_ hb
theorem jT_ (h:Heap) (vs:List Value) (out:Array Value):∃e,(sortedHeap (lsH h vs) h.objs.size vs out).get? h.objs.size=some (seqObj "list" out e):=by
 obtain⟨e1,ho1⟩:∃e1,((lsH h vs).update h.objs.size (Obj.mapSeq fun _=>(#[]:Array Value))).get? h.objs.size=some (seqObj "list" #[] e1):=⟨_,CW (hx_ h vs) (fun _=> #[])⟩;have ho6:(aK_ (lsH h vs) h.objs.size vs).get? h.objs.size=some (seqObj "list" #[] e1):=by
  rw [B5 _ _ _ (by rw [Bl,B1,Bl];exact AL (Ad (BP _))),B5 _ _ _ (by rw [B1,Bl];exact AL (BP _))];exact ho1
 exact⟨_,CW ho6 (fun _=>out)⟩
theorem kJ_ {v:Value}{pE_:List Value->Shared->Prop}{Q:Value->Shared->Prop} (hcol:wpAny (model prog w) A.in1 (collect v) pE_ E s)
  (h:∀vs s1,pE_ vs s1->vs.length<64/\(vs.length<2->Q (.ref s1.heap.objs.size) {s1 with heap:=sortedHeap (lsH s1.heap vs) s1.heap.objs.size vs vs.toArray})/\
   (2<=vs.length->∃(c:Nat->Nat->Bool) (kd:SortKind),
    (∀(R:SortKind->Shared->Prop) (E:Value->Shared->Prop),R kd {s1 with heap:=aK_ (lsH s1.heap vs) s1.heap.objs.size vs}->wpAny (model prog w) A.in1.in1 (keyKind' vs.toArray) R E {s1 with heap:=aK_ (lsH s1.heap vs) s1.heap.objs.size vs})/\
    (∀i j,i<vs.length->j<vs.length->∀C:Bool->Shared->Prop,C (c i j) {s1 with heap:=aK_ (lsH s1.heap vs) s1.heap.objs.size vs}->wpAny (model prog w) A.in1.in1 (keyLt' kd (vs.getD i .none) (vs.getD j .none)) C (fun _ _=>False) {s1 with heap:=aK_ (lsH s1.heap vs) s1.heap.objs.size vs})/\
    ∀p,Ord vs.length p->p=cp_ c (kas_sort vs.length)->Q (.ref s1.heap.objs.size) {s1 with heap:=sortedHeap (lsH s1.heap vs) s1.heap.objs.size vs (p.map fun i=>vs.getD i .none)})):
  wpAny (model prog w) A (call (.builtin "sorted") [v]) Q E s:=by
 refine Ch kind_sorted plain_sorted entry_sorted (args_sorted1 _) ?_;unfold Builtin.«sorted»;refine A0 (m:=checkCount "sorted" 1 1 _) (A2 ?_);refine A0 (thn hcol fun vs s1 g=> ?_);obtain⟨h64,few,many⟩:=h vs s1 g;refine A0 (Ck ?_ (by rw [Aw];lia));show wpAny _ _ _ _ _ {s1 with heap:=lsH s1.heap vs};by_cases h2:vs.length<2
 .refine A0 (Ar (Ab DI ⟨_,hx_ s1.heap vs,rfl⟩ DH (jz_ (s:={s1 with heap:=lsH s1.heap vs}) (hx_ s1.heap vs) h2 ⟨_,rfl, ?_⟩) (DJ _)));exact A2 ⟨_,rfl,few h2⟩
 .obtain⟨c,kd,hkd,hc,hq⟩:=many (by lia);refine A0 (Ar (Ab DI ⟨_,hx_ s1.heap vs,rfl⟩ DH (g4_ (c:=c) (s:={s1 with heap:=lsH s1.heap vs}) (hx_ s1.heap vs) (by lia) h64 (fun R=>hkd R _) hc fun p hp hpc=>⟨_,rfl, ?_⟩) (DJ _)));exact A2 ⟨_,rfl,hq p hp hpc⟩
end
section
variable {X:Cx}{pins:List (Addr×Obj)}{σ:St}{H:Hp}{s:Shared}
theorem js_:∀{xs:List Int}{vs:List Value},aV_ (xs.map V.int) vs->∀(prog:Program) (w:World),ItemsAre (intKind prog w) xs vs
 |[],_, .nil,_,_=> .nil
 |x::xs,_, .cons r1 r2,prog,w=>by
  obtain⟨t,rfl⟩:=r1;exact .cons (intKind_is prog w x t) (js_ r2 prog w)
theorem lA_ (I:Inv X pins σ H s) {a:Addr}{xs:List Int} (h:SqT X.K H a (xs.map V.int)):IsTupleKey (intKind X.prog X.w) s.heap xs a:=by
 obtain⟨its,r,p,z⟩:=I.tuple h;obtain⟨o,ho,hc,n,hd⟩:=p;exact⟨o,_,n,ho,hc,hd,js_ r _ _⟩
theorem sz_ {A:Around}{k:Nat} (hr:Room k A):A.units+8<cLine:=Nat.lt_of_le_of_lt (Nat.add_le_add_left (by decide:8<=64) _) hr.units
def t7_:List V->Hp->VK->Prop:=fun vs H Q=>∃(v:V) (xss:List (List Int)) (m:Nat),vs=[v]/\Is H (.l (xss.map tI)) v/\0<m/\(∀xs∈xss,xs.length=m)/\xss.length<64/\
 ∀(yss:List (List Int)) (q:Addr) (H':Hp),yss.Nodup->(∀z,z∈yss↔z∈xss)->(∀i j,i<j->j<yss.length->ltI (yss.getD j []) (yss.getD i [])=false)->H q=none->an_ H H'->Is H' (.l (yss.map tI)) (.ref q)->Q (.ref q) H'
theorem lG_ (I:Inv X pins σ H s) {rs:List V}{xss:List (List Int)}{m:Nat}{vs:List Value} (hi:Iss H (xss.map tI) rs) (r':aV_ rs vs) (hm:0<m) (hne':∀xs∈xss,xs.length=m) (hlen:xss.length<64) {Q:VK}
  (q:∀(yss:List (List Int)) (q:Addr) (H':Hp),yss.Perm xss->(∀i j,i<j->j<yss.length->ltI (yss.getD j []) (yss.getD i [])=false)->H q=none->an_ H H'->Is H' (.l (yss.map tI)) (.ref q)->Q (.ref q) H') (A:Around):
  vs.length<64/\(vs.length<2->EP X pins σ Q (.ref s.heap.objs.size) {s with heap:=sortedHeap (lsH s.heap vs) s.heap.objs.size vs vs.toArray})/\
   (2<=vs.length->∃(c:Nat->Nat->Bool) (kd:SortKind),
    (∀(R:SortKind->Shared->Prop) (E:Value->Shared->Prop),R kd {s with heap:=aK_ (lsH s.heap vs) s.heap.objs.size vs}->wpAny (model X.prog X.w) A.in1.in1 (keyKind' vs.toArray) R E {s with heap:=aK_ (lsH s.heap vs) s.heap.objs.size vs})/\
    (∀i j,i<vs.length->j<vs.length->∀C:Bool->Shared->Prop,C (c i j) {s with heap:=aK_ (lsH s.heap vs) s.heap.objs.size vs}->wpAny (model X.prog X.w) A.in1.in1 (keyLt' kd (vs.getD i .none) (vs.getD j .none)) C (fun _ _=>False) {s with heap:=aK_ (lsH s.heap vs) s.heap.objs.size vs})/\
    ∀p,Ord vs.length p->p=cp_ c (kas_sort vs.length)->EP X pins σ Q (.ref s.heap.objs.size) {s with heap:=sortedHeap (lsH s.heap vs) s.heap.objs.size vs (p.map fun i=>vs.getD i .none)}):=by
 have hne:∀xs∈xss,xs≠[]:=fun xs hx z=>by have:=hne' xs hx;rw [z] at this;exact absurd this (by show¬0=m;lia)
 have hrs:rs.length=xss.length:=by rw [hi.length,A1]
 have ln:=r'.length;have lns:vs.length=xss.length:=by lia
 refine⟨by lia,fun h2=> ?_,fun h2=>⟨qh_ xss,tuples' true,fun R E hR=> ?_,fun i j hi' hj' C hC=> ?_,fun p ho hpc=> ?_⟩⟩
 .obtain⟨e,he⟩:=jT_ s.heap vs vs.toArray;have fr:=I.hok.fresh (a:=s.heap.objs.size) (AA _);exact⟨.ref s.heap.objs.size,_,I.laid (t':=s.toks) (fun _ _=>hw_) (AA _) (show aC_ X.prog X.w _ _ _ (.lst rs) from⟨by rw [Aw];lia,vs,e,r',he⟩),rfl,q xss _ _ (List.Perm.refl _) (fun i j a b=>absurd b (by lia)) fr (an_.new fr) (cq_ ag_ (hi.mono (an_.new fr)))⟩
 .have I2:Inv X pins σ H {s with heap:=aK_ (lsH s.heap vs) s.heap.objs.size vs}:=I.kept (t':=s.toks) fun b o e=>gt_ e;obtain⟨fs,k1,k2,k3⟩:=gE_ I2 hi r' hne;exact kat_kind (T:= .type "int") k1 (by lia) (fun f hf=>by obtain⟨z,t,rfl⟩:=k3 f hf;exact .now) rfl hR
 .have I2:Inv X pins σ H {s with heap:=aK_ (lsH s.heap vs) s.heap.objs.size vs}:=I.kept (t':=s.toks) fun b o e=>gt_ e;have g:∀i,i<xss.length->∃a,vs.getD i .none= .ref a/\SqT X.K H a ((xss.getD i []).map V.int):=fun i h=>by
   have hr:i<rs.length:=by lia
   obtain⟨d,hd,h1⟩:=hi.of_get (A3 hr);rw [A9,A3 h] at hd;cases hd;obtain⟨a,ea,ha⟩:=bS_ h1;obtain⟨u,hu1,ru⟩:=r'.get (A3 hr);rw [ea] at ru;obtain rfl:u=Value.ref a:=ru;refine⟨a, ?_, ?_⟩
   .rw [A8,hu1];rfl
   .rw [A8,A3 h];exact SqT.of ha
  obtain⟨a1,e1,s1⟩:=g i (by lia);obtain⟨a2,e2,s2⟩:=g j (by lia);rw [e1,e2];rw [gb_ (by lia) (by lia)] at hC;exact j2_ I2 s1 s2 hC
 .rw [lns] at ho hpc;have hpl:∀i∈p.toList,i<xss.length:=fun i hi=>ho.lt hi;obtain⟨e,he⟩:=jT_ s.heap vs (p.map fun i=>vs.getD i .none);have en:(p.map fun i=>vs.getD i .none)=List.toArray (p.toList.map fun i=>vs.getD i .none):=by
   apply Array.toList_inj.mp;simp
  rw [en] at he⊢;have fr:=I.hok.fresh (a:=s.heap.objs.size) (AA _);refine⟨.ref s.heap.objs.size,_,I.laid (t':=s.toks) (fun _ _=>hw_) (AA _) (show aC_ X.prog X.w _ _ _ (.lst (p.toList.map fun i=>rs.getD i .non)) from⟨?_,_,e,dp_ r' p.toList (fun i hi=>by rw [hrs];exact hpl i hi),he⟩),rfl,q (p.toList.map fun i=>xss.getD i []) _ _ ?_ ?_ fr (an_.new fr) (cq_ ag_ ((gG_ hi p.toList hpl).mono (an_.new fr)))⟩
  .rw [A1,Ah,Aw,ho.size];lia
  .have pp:=(CO.mp ho).map fun i=>xss.getD i [];rw [show(List.range xss.length).toArray.toList=List.range xss.length from rfl,jR_] at pp;exact pp
  .intro i j hij hj;rw [A1,Ah,ho.size] at hj;have up:=hF_ (mk_ (xss:=xss) (m:=m) (by lia) hne') (n:=xss.length) (by lia) i j hij hj;rw [<-hpc] at up;have g:∀i,i<xss.length->(p.toList.map fun i=>xss.getD i []).getD i []=xss.getD (at0 p i) []/\at0 p i<xss.length:=fun i h=>by
    have hs:i<p.size:=by rw [ho.size];exact h
    have e:at0 p i=p[i]:=by simp [at0,Array.getD,hs]
    rw [e];refine⟨?_,ho.lt (by simp)⟩;rw [A8,A9];simp [hs]
   obtain⟨g1,g2⟩:=g i (by lia);obtain⟨g3,g4⟩:=g j hj;rw [g1,g3];rw [gb_ g4 g2] at up;exact up
theorem dj_ {α β:Type}{f:β->α}{P:β->Prop}:∀(vs:List α),(∀v∈vs,∃j,P j/\v=f j)->∃js:List β,vs=js.map f/\∀j∈js,P j
 |[],_=>⟨[],rfl,fun _ h=>nomatch h⟩
 |v::vs,h=>by
  obtain⟨j,pj,e⟩:=h v (by simp);obtain⟨js,es,ps⟩:=dj_ vs fun u hu=>h u (by simp [hu]);exact⟨j::js,by rw [e,es];rfl,fun i hi=>by rcases AJ.mp hi with rfl|hi;exact pj;exact ps i hi⟩
theorem gY_ (ad:Nat->Addr):∀js:List Nat,aV_ (js.map fun j=>V.ref (ad j)) (js.map fun j=>Value.ref (ad j))
 |[]=> .nil
 |j::js=> .cons rfl (gY_ ad js)
theorem j6_ {H:Hp} (kk:Nat->List Int) (ad:Nat->Addr):∀js:List Nat,(∀j∈js,H (ad j)=some (.tup ((kk j).map V.int)))->Iss H ((js.map kk).map tI) (js.map fun j=>V.ref (ad j))
 |[],_=>am_
 |j::js,h=>ai_ (e3_ (h j (by simp))) (j6_ kk ad js fun i hi=>h i (by simp [hi]))
theorem nU_ {prog:Program}{w:World}{h':Heap}{kk:Nat->List Int}{ad:Nat->Addr}{n:Nat}{es:Array (Int×Value)}{vs:List Value} (en:Ent prog w h' es) (mk:Made prog w kk ad n es)
  (hkey:∀j,j<n->IsTupleKey (intKind prog w) h' (kk j) (ad j)) (hp:vs.Perm (es.toList.map (·.2))):
  ∃js:List Nat,vs=js.map (fun j=>Value.ref (ad j))/\(∀j∈js,j<n)/\(js.map kk).Nodup/\∀j,j<n->kk j∈js.map kk:=by
 have vmem:∀v,v∈vs↔∃p g,es[p]? =some (g,v):=fun v=>by
  rw [hp.mem_iff,Af];constructor
  .rintro⟨⟨g,v'⟩,he,rfl⟩;obtain⟨p,hp,e⟩:=Array.mem_iff_getElem.mp (Array.mem_toList_iff.mp he);exact⟨p,g,by rw [Ai hp,e]⟩
  .rintro⟨p,g,e⟩;have hp:=c3_ e;rw [Ai hp,B3] at e;exact⟨(g,v),by rw [<-e];simp,rfl⟩
 obtain⟨js,ev,pj⟩:=dj_ (f:=fun j=>Value.ref (ad j)) (P:=fun j=>j<n/\∃p g,es[p]? =some (g,Value.ref (ad j))) vs fun v hv=>by
  obtain⟨p,g,e⟩:=(vmem v).mp hv;obtain⟨j,hj,e'⟩:=mk.from_ p _ e;simp only [BM] at e';obtain⟨_,rfl⟩:=e';exact⟨j,⟨hj,p,g,e⟩,rfl⟩
 have nd:vs.Nodup:=by
  rw [hp.nodup_iff];unfold List.Nodup;rw [Cn,Bf];intro i j hi hj hij e;rw [Ah] at hi hj;obtain⟨k,b,e1,q1⟩:=en.ent i hi;obtain⟨k',b',e2,q2⟩:=en.ent j hj;have z1:es.toList[i].2=Value.ref b:=by
   rw [Ai hi,B3] at e1;simp [e1]
  have z2:es.toList[j].2=Value.ref b':=by
   rw [Ai hj,B3] at e2;simp [e2]
  rw [z1,z2,Br] at e;subst e;have:=en.dis i j k b b _ _ e1 e2 q1 q1;lia
 refine⟨js,ev,fun j hj=>(pj j hj).1, ?_,fun j hj=> ?_⟩
 .rw [ev] at nd;unfold List.Nodup at nd⊢;rw [Cn] at nd⊢;refine List.Pairwise.imp_of_mem (fun{a b} ha hb hne e=>hne ?_) nd;obtain⟨la,p,g,ea⟩:=pj a ha;obtain⟨lb,p',g',eb⟩:=pj b hb;have:=en.dis p p' (kk a) _ _ _ _ ea eb (hkey a la) (by rw [e];exact hkey b lb);subst this;rw [ea] at eb;simp only [B3,BM] at eb;exact eb.2
 .obtain⟨p,j',hj',ek,e⟩:=mk.all j hj;have:=(vmem _).mpr ⟨p,_,e⟩;rw [ev] at this;obtain⟨i,hi,ei⟩:=Af.mp this;simp only [Br] at ei;have q1:=hkey i (pj i hi).1;rw [ei] at q1;have:=q1.inj (hkey j' hj');rw [<-ek,<-this];exact List.mem_map_of_mem hi
theorem qb_ {e:Expr}{ta:TA}{p p2 pos pos2:Pos} (hu:X.A.units+8<cLine) (hh:X.A.handled=none) (hg:Gl X "sorted") (hm:X.mg "sorted"=none) (hg2:Gl X "set") (hm2:X.mg "set"=none)
  (ha:PA X [e] ta) (he:starEach [e] X.env=(false,eval e X.env)::starEach [] X.env:=by rfl)
  (he2:starEach [Expr.Call (.Name "set" p2) [e] [] pos2] X.env=(false,eval (Expr.Call (.Name "set" p2) [e] [] pos2) X.env)::starEach [] X.env:=by rfl):
  PE X (.Call (.Name "sorted" p) [.Call (.Name "set" p2) [e] [] pos2] [] pos) (tCB t7_ ta):=by
 intro pins s σ H Q I h;refine Ba (cK_ I hg hm (by first|exact boot_sorted|rfl|ac_nf) ?_ (by decide) (by decide));refine Cz ?_ he2 (by rfl);rw [he2];show wpAny _ _ (spliced ((false,eval (Expr.Call (.Name "set" p2) [e] [] pos2) X.env)::backTo pos (starEach [] X.env))) _ _ s;refine Cu ?_;refine Ba (cK_ I hg2 hm2 (by first|rfl|ac_nf) ?_ (by decide) (by decide));refine BH (thn (ha pos2 pins s σ H _ I h) fun us s1 ⟨vs,H1,I1,r1,q1⟩=> ?_) he (by rfl);obtain⟨v,xss,m,rfl,hv,hm',hne',hlen,q⟩:=q1;obtain⟨l,rs,rfl,hl,hi⟩:=bT_ hv;have hrs:rs.length=xss.length:=by rw [hi.length,A1]
 obtain⟨u,rfl,rx⟩:=ek_ r1;cases rx;obtain⟨its,r',pl,hz⟩:=I1.list (SqL.of (K:=X.K) hl);have ln:=r'.length;have g:∀i,∃a,i<xss.length->its[i]? =some (.ref a)/\rs[i]? =some (.ref a)/\H1 a=some (.tup ((xss.getD i []).map V.int)):=fun i=>by
  by_cases h:i<xss.length
  .have hr:i<rs.length:=by lia
   obtain⟨d,hd,h1⟩:=hi.of_get (A3 hr);rw [A9,A3 h] at hd;cases hd;obtain⟨a,ea,ha⟩:=bS_ h1;obtain⟨u,hu1,ru⟩:=r'.get (A3 hr);rw [ea] at ru;obtain rfl:u=Value.ref a:=ru;refine⟨a,fun _=>⟨hu1,by rw [A3 hr,ea], ?_⟩⟩;rw [A8,A3 h];exact ha
  .exact⟨0,fun c=>absurd c h⟩
 let ad:Nat->Addr:=fun i=>Classical.choose (g i)
 have hg:∀i,i<xss.length->its[i]? =some (.ref (ad i))/\rs[i]? =some (.ref (ad i))/\H1 (ad i)=some (.tup ((xss.getD i []).map V.int)):=fun i hi=>Classical.choose_spec (g i) hi;generalize ad=ad at hg;refine h8_ (kk:=fun i=>xss.getD i []) (ad:=ad) (items:=its.toArray) hh (by lia) pl.isList (by rw [AE];lia) (fun i hi=> ?_) fun h' tk es hS en mk hk=> ?_
 .rw [AE] at hi;have hg':=hg i (by lia);exact⟨by rw [List.getElem?_toArray];exact hg'.1,lA_ I1 (SqT.of hg'.2.2)⟩
 .have I2:Inv X pins σ H1 {s1 with heap:=h',toks:=tk}:=I1.kept fun b o e=>hk b o (AI e) e;refine A2 ?_;show wpAny _ _ (call (.builtin "sorted") [.ref s1.heap.objs.size]) _ _ {s1 with heap:=h',toks:=tk};obtain⟨ep,t,ho,tb,tl,tp,tr⟩:=hS;refine kJ_ (jj_ (s:={s1 with heap:=h',toks:=tk}) (A:=X.A.in1) hh ho tb (by lia) tl tp fun h'' tk' vs hk' hsz hp=> ?_) fun vs s' g=>g;have hkey:∀j,j<its.toArray.size->IsTupleKey (intKind X.prog X.w) h' (xss.getD j []) (ad j):=fun j hj=>by
   rw [AE] at hj;exact lA_ I2 (SqT.of (hg j (by lia)).2.2)
  obtain⟨js,ev,lt,nd,all⟩:=nU_ en mk hkey hp;have I3:Inv X pins σ H1 {s1 with heap:=h'',toks:=tk'}:=I2.kept hk';have lt':∀j∈js,j<xss.length:=fun j hj=>by have:=lt j hj;rw [AE] at this;lia
  subst ev;have mem:∀z,z∈js.map (fun i=>xss.getD i [])↔z∈xss:=fun z=>by
   constructor
   .intro hz;obtain⟨j,hj,rfl⟩:=Af.mp hz;rw [A8,A3 (lt' j hj)];exact CQ _
   .intro hz;obtain⟨j,hj,e⟩:=List.getElem_of_mem hz;have:=all j (by rw [AE];lia);rw [A8,A3 hj,e] at this;exact this
  have bound:(js.map fun i=>xss.getD i []).length<=xss.length:=by
   have e1:js.length=es.size:=by have:=hp.length_eq;simpa using this
   have e2:es.size<=its.length:=by have:=mk.size;simpa using this
   rw [A1];lia
  refine lG_ I3 (rs:=js.map fun j=>V.ref (ad j)) (xss:=js.map fun i=>xss.getD i []) (j6_ _ ad js fun j hj=>(hg j (lt' j hj)).2.2) (gY_ ad js) hm' (fun xs hx=>hne' xs ((mem xs).mp hx)) (by lia) (fun yss q' H' pm srt hq sm his=> ?_) X.A;exact q yss q' H' (pm.nodup_iff.mpr nd) (fun z=>by rw [pm.mem_iff];exact mem z) srt hq sm his
end
end L2
namespace L2
open PySem PySem.Spec PyProof.Rows PySem.W
section
variable {prog:Program}{w:World}{A:Around}{E:Value->Shared->Prop}{s:Shared}
theorem ko_ {d:Addr}{o:Obj}{es:Array DictEntry}{ep:Nat}{Q:Value->Shared->Prop} (hd:(d==sysModules)=false) (ho:s.heap.get? d=some o) (hc:o.ExactDict) (hdat:o.data= .dict es ep)
  (hQ:Q (.ref s.heap.objs.size) {s with heap:=s.heap.push {cls:= .type "dict_keyiterator",data:= .fields #[.ref d, .int 0 0, .int es.size 0, .int ep 0]}}):
  wpAny (model prog w) A (pyIter (.ref d)) Q E s:=by
 have hT:s.TypeIs (.ref d) "dict":=⟨o,ho,hc.1⟩;refine wpAny_pyIter_slot hT PySem.F.slot_dict_iter (Ab PySem.F.slot_dict_iter hT PySem.F.entry_dict_iter ?_ (PySem.F.args_dict_iter_1 _));unfold Builtin.«dict.__iter__»;refine A0 ?_;unfold Builtin.Dict.dictSlotNone;refine A0 (wpAny_notOrdered_dict hT ?_);show wpAny _ _ (pure (Value.ref d)) _ _ s;refine A2 ?_;show wpAny _ _ (Builtin.Dict.showsAll d>>=_) _ _ s;unfold Builtin.Dict.showsAll;rw [A5 (by rw [hd];exact AT)];refine A0 (A2 ?_);refine A0 (CT ho hdat ?_);refine A0 (Cr ho hdat ?_);refine A0 (Aq (A2 ⟨_,rfl,"dict_keyiterator",_,⟨_,AF _ rfl,rfl⟩,BZ.lookup, ?_⟩));simpa [rawInt] using hQ
theorem kp_ {it d:Addr}{o:Obj}{es:Array DictEntry}{i ep:Nat}{e:DictEntry}{Q:Option Value->Shared->Prop} (hit:s.heap.IsKeyIter it d i es.size ep) (hod:s.heap.get? d=some o) (hdd:o.data= .dict es ep) (he:es[i]? =some e)
  (hQ:∀h',h'.IsKeyIter it d (i+1) es.size ep->Heap.SameBut it s.heap h'->Q (some e.key) {s with heap:=h'}):wpAny (model prog w) A (pyNext (.ref it)) Q E s:=by
 obtain⟨oi,ho,hc,hd⟩:=id hit;have hlt:i<es.size:=(Bt.mp he).1;unfold pyNext;refine A0 (Bv (Ax (name:=Str.ofString "__next__") hit.typeIs BZ (Ab BZ hit.typeIs PySem.F.entry_dict_keyiterator_next ?_ (PySem.F.args_dict_keyiterator_next_1 _))));refine A0 (A2 ?_);refine A0 ?_;refine A0 ?_;first|refine A0 (CG hit.typeIs (A2 ?_));skip|refine A0 (Cj hit.typeIs (A2 ?_));skip
 refine A0 (D1 ho hd ?_);have hown:Builtin.Dict_items.ownsTuple "dict_keyiterator"=false:=by decide
 simp only [hown,AH,Am];show wpAny _ _ (if(Value.ref d==Value.none)=true then _ else _) _ _ s;rw [A5 (show¬((Value.ref d==Value.none)=true) from AT)];refine A0 (A2 ?_);refine A0 (CT hod hdd ?_);rw [A5 (by simp)];refine A0 (A2 ?_);refine A0 (Cr hod hdd ?_);rw [A5 (by simp)];refine A2 ?_;simp only [show¬((i:Int)<0) from by lia,Am,Ap,he];refine A0 ?_;first|refine A0 (CG hit.typeIs (A2 ?_));skip|refine A0 (Cj hit.typeIs (A2 ?_));skip
 refine A0 (wpAny_isOneOf_keyiter hit.typeIs ?_);show wpAny _ _ (setField (.ref it) 1 (rawInt ((i:Int)+1))>>=_) _ _ s;refine A0 (C1 ho hd (by simp) ?_);have st':(s.heap.update it (Obj.mapFields (·.setIfInBounds 1 (rawInt ((i:Int)+1))))).IsKeyIter it d (i+1) es.size ep:=⟨_,C5 _ ho (D6 (Bm hd _)),(Obj.cls_mapFields ..).trans hc,by rw [Bm hd];simp [rawInt]⟩;refine A0 (Ar ?_);refine A0 (wpAny_isOneOf_keyiter (s:={s with heap:=s.heap.update it (Obj.mapFields (·.setIfInBounds 1 (rawInt ((i:Int)+1))))}) st'.typeIs ?_);show wpAny _ _ (pure e.key) _ _ _;exact A2 (A2 ⟨_,rfl,A2 (hQ _ st' (B9 ..))⟩)
theorem m7_ {it d:Addr}{o:Obj}{es:Array DictEntry}{i ep:Nat}{Q:Option Value->Shared->Prop} (hh:A.handled=none) (hit:s.heap.IsKeyIter it d i es.size ep) (hod:s.heap.get? d=some o) (hdd:o.data= .dict es ep) (he:es.size<=i)
  (hQ:∀h',Heap.ExtBut it s.heap h'->Q none {s with heap:=h'}):wpAny (model prog w) A (pyNext (.ref it)) Q E s:=by
 obtain⟨oi,ho,hc,hd⟩:=id hit;unfold pyNext;refine A0 (Bv (Ax (name:=Str.ofString "__next__") hit.typeIs BZ (Ab BZ hit.typeIs PySem.F.entry_dict_keyiterator_next ?_ (PySem.F.args_dict_keyiterator_next_1 _))));refine A0 (A2 ?_);refine A0 ?_;refine A0 ?_;first|refine A0 (CG hit.typeIs (A2 ?_));skip|refine A0 (Cj hit.typeIs (A2 ?_));skip
 refine A0 (D1 ho hd ?_);have hown:Builtin.Dict_items.ownsTuple "dict_keyiterator"=false:=by decide
 simp only [hown,AH,Am];show wpAny _ _ (if(Value.ref d==Value.none)=true then _ else _) _ _ s;rw [A5 (show¬((Value.ref d==Value.none)=true) from AT)];refine A0 (A2 ?_);refine A0 (CT hod hdd ?_);rw [A5 (by simp)];refine A0 (A2 ?_);refine A0 (Cr hod hdd ?_);rw [A5 (by simp)];refine A2 ?_;simp only [show¬((i:Int)<0) from by lia,Am,Ap,Bc he];refine A0 ?_;first|refine A0 (CG hit.typeIs (A2 ?_));skip|refine A0 (Cj hit.typeIs (A2 ?_));skip
 show wpAny _ _ (setField (.ref it) 0 .none>>=_) _ _ s;refine A0 (C1 ho hd (by simp) ?_);show wpAny _ _ (newExc (.type "StopIteration") []>>=_) _ _ _;refine A0 ?_;simp only [newExc,newTuple];refine A0 (Aq ?_ (by size_fits));refine A0 (m:=firstArgMember _ _) (D' (a:=Value.none) (by first|rfl|(simp only [firstArgMember];rfl)) ?_);refine Aq ?_ (by size_fits);simp only [raiseNew];refine A0 (wpAny_handled ?_);rw [show A.in1.handled=none from hh];refine A0 (A2 (wpAny_throw ?_));refine A0 (Bw (T:="StopIteration") (b:=true) ⟨_,AF _ rfl,rfl⟩ isSubtype_stop ?_);exact A2 (hQ _ (((B9 ..).extBut.push _).push _))
end
section
variable {prog:Program}{w:World}{A:Around}{E:Value->Shared->Prop}{s:Shared}
theorem qY_ {d:Addr}{o:Obj}{Q:Value->Shared->Prop} (hd:(d==sysModules)=false) (ho:s.heap.get? d=some o) (hc:o.ExactDict)
  (hQ:Q (.ref s.heap.objs.size) {s with heap:=s.heap.push {cls:= .type "dict_values",data:= .fields #[.ref d]}}):wpAny (model prog w) A (call (.builtin "dict.values") [.ref d]) Q E s:=by
 have hT:s.TypeIs (.ref d) "dict":=⟨o,ho,hc.1⟩;refine Ab PySem.F.slot_dict_values hT PySem.F.entry_dict_values ?_ (PySem.F.args_dict_values_1 _);refine A0 ?_;unfold Builtin.Dict.noArgs;refine A0 (wpAny_notOrdered_dict hT ?_);show wpAny _ _ (pure d) _ _ s;refine A2 ?_;show wpAny _ _ (Builtin.Dict.showsAll d>>=_) _ _ s;unfold Builtin.Dict.showsAll;rw [A5 (by rw [hd];exact AT)];refine A0 (A2 ?_);exact A0 (Aq (A2 ⟨_,rfl,hQ⟩))
theorem qW_ {v d:Addr}{o:Obj}{es:Array DictEntry}{ep:Nat}{Q:Value->Shared->Prop} (hv:s.heap.IsValuesView v d) (ho:s.heap.get? d=some o) (hdat:o.data= .dict es ep)
  (hQ:Q (.ref s.heap.objs.size) {s with heap:=s.heap.push {cls:= .type "dict_valueiterator",data:= .fields #[.ref d, .int 0 0, .int es.size 0, .int ep 0]}}):
  wpAny (model prog w) A (pyIter (.ref v)) Q E s:=by
 obtain⟨ov,hov,hcv,hdv⟩:=id hv;refine wpAny_pyIter_slot hv.typeIs PySem.F.slot_dict_values_iter (Ab PySem.F.slot_dict_values_iter hv.typeIs PySem.F.entry_dict_values_iter ?_ (PySem.F.args_dict_values_iter_1 _));unfold Builtin.«dict_values.__iter__»;refine A0 (A2 ?_);refine A0 ?_;unfold Builtin.Dict_items.dictOf;refine A0 (BY hov hdv (x:= .ref d) rfl (A2 ?_));refine A0 ?_;unfold Builtin.Dict_items.newIterator;refine A0 (CT ho hdat ?_);refine A0 (Cr ho hdat ?_);have hown:Builtin.Dict_items.ownsTuple "dict_valueiterator"=false:=by decide
 simp only [hown,AH,Am];refine Aq (A2 ⟨_,rfl,"dict_valueiterator",_,⟨_,AF _ rfl,rfl⟩,BQ.lookup, ?_⟩);simpa [rawInt] using hQ
theorem qX_ {it d:Addr}{o:Obj}{es:Array DictEntry}{i ep:Nat}{e:DictEntry}{Q:Option Value->Shared->Prop} (hit:s.heap.IsValIter it d i es.size ep) (hod:s.heap.get? d=some o) (hdd:o.data= .dict es ep) (he:es[i]? =some e)
  (hQ:∀h',h'.IsValIter it d (i+1) es.size ep->Heap.SameBut it s.heap h'->Q (some e.val) {s with heap:=h'}):wpAny (model prog w) A (pyNext (.ref it)) Q E s:=by
 obtain⟨oi,ho,hc,hd⟩:=id hit;have hlt:i<es.size:=(Bt.mp he).1;unfold pyNext;refine A0 (Bv (Ax (name:=Str.ofString "__next__") hit.typeIs BQ (Ab BQ hit.typeIs PySem.F.entry_dict_valueiterator_next ?_ (PySem.F.args_dict_valueiterator_next_1 _))));refine A0 (A2 ?_);refine A0 ?_;refine A0 ?_;first|refine A0 (CF hit.typeIs (A2 ?_));skip|refine A0 (Ci hit.typeIs (A2 ?_));skip
 refine A0 (D1 ho hd ?_);have hown:Builtin.Dict_items.ownsTuple "dict_valueiterator"=false:=by decide
 simp only [hown,AH,Am];show wpAny _ _ (if(Value.ref d==Value.none)=true then _ else _) _ _ s;rw [A5 (show¬((Value.ref d==Value.none)=true) from AT)];refine A0 (A2 ?_);refine A0 (CT hod hdd ?_);rw [A5 (by simp)];refine A0 (A2 ?_);refine A0 (Cr hod hdd ?_);rw [A5 (by simp)];refine A2 ?_;simp only [show¬((i:Int)<0) from by lia,Am,Ap,he];refine A0 ?_;first|refine A0 (CF hit.typeIs (A2 ?_));skip|refine A0 (Ci hit.typeIs (A2 ?_));skip
 refine A0 (wpAny_isOneOf_valiter hit.typeIs ?_);show wpAny _ _ (setField (.ref it) 1 (rawInt ((i:Int)+1))>>=_) _ _ s;refine A0 (C1 ho hd (by simp) ?_);have st':(s.heap.update it (Obj.mapFields (·.setIfInBounds 1 (rawInt ((i:Int)+1))))).IsValIter it d (i+1) es.size ep:=⟨_,C5 _ ho (D6 (Bm hd _)),(Obj.cls_mapFields ..).trans hc,by rw [Bm hd];simp [rawInt]⟩;refine A0 (Ar ?_);refine A0 (wpAny_isOneOf_valiter (s:={s with heap:=s.heap.update it (Obj.mapFields (·.setIfInBounds 1 (rawInt ((i:Int)+1))))}) st'.typeIs ?_);refine A0 (wpAny_isOneOf_valiter (s:={s with heap:=s.heap.update it (Obj.mapFields (·.setIfInBounds 1 (rawInt ((i:Int)+1))))}) st'.typeIs ?_);show wpAny _ _ (pure e.val) _ _ _;exact A2 (A2 ⟨_,rfl,A2 (hQ _ st' (B9 ..))⟩)
theorem sF_ {it d:Addr}{o:Obj}{es:Array DictEntry}{i ep:Nat}{Q:Option Value->Shared->Prop} (hh:A.handled=none) (hit:s.heap.IsValIter it d i es.size ep) (hod:s.heap.get? d=some o) (hdd:o.data= .dict es ep) (he:es.size<=i)
  (hQ:∀h',Heap.ExtBut it s.heap h'->Q none {s with heap:=h'}):wpAny (model prog w) A (pyNext (.ref it)) Q E s:=by
 obtain⟨oi,ho,hc,hd⟩:=id hit;unfold pyNext;refine A0 (Bv (Ax (name:=Str.ofString "__next__") hit.typeIs BQ (Ab BQ hit.typeIs PySem.F.entry_dict_valueiterator_next ?_ (PySem.F.args_dict_valueiterator_next_1 _))));refine A0 (A2 ?_);refine A0 ?_;refine A0 ?_;first|refine A0 (CF hit.typeIs (A2 ?_));skip|refine A0 (Ci hit.typeIs (A2 ?_));skip
 refine A0 (D1 ho hd ?_);have hown:Builtin.Dict_items.ownsTuple "dict_valueiterator"=false:=by decide
 simp only [hown,AH,Am];show wpAny _ _ (if(Value.ref d==Value.none)=true then _ else _) _ _ s;rw [A5 (show¬((Value.ref d==Value.none)=true) from AT)];refine A0 (A2 ?_);refine A0 (CT hod hdd ?_);rw [A5 (by simp)];refine A0 (A2 ?_);refine A0 (Cr hod hdd ?_);rw [A5 (by simp)];refine A2 ?_;simp only [show¬((i:Int)<0) from by lia,Am,Ap,Bc he];refine A0 ?_;first|refine A0 (CF hit.typeIs (A2 ?_));skip|refine A0 (Ci hit.typeIs (A2 ?_));skip
 show wpAny _ _ (setField (.ref it) 0 .none>>=_) _ _ s;refine A0 (C1 ho hd (by simp) ?_);show wpAny _ _ (newExc (.type "StopIteration") []>>=_) _ _ _;refine A0 ?_;simp only [newExc,newTuple];refine A0 (Aq ?_ (by size_fits));refine A0 (m:=firstArgMember _ _) (D' (a:=Value.none) (by first|rfl|(simp only [firstArgMember];rfl)) ?_);refine Aq ?_ (by size_fits);simp only [raiseNew];refine A0 (wpAny_handled ?_);rw [show A.in1.handled=none from hh];refine A0 (A2 (wpAny_throw ?_));refine A0 (Bw (T:="StopIteration") (b:=true) ⟨_,AF _ rfl,rfl⟩ isSubtype_stop ?_);exact A2 (hQ _ (((B9 ..).extBut.push _).push _))
theorem lr_ (hh:A.handled=none) (I d:Addr) (hne:d≠I) {o:Obj}{es:Array DictEntry}{ep:Nat} (hdat:o.data= .dict es ep):
  Walks prog w A I [I,d] [I] es.size (fun i v=>∃e,es[i]? =some e/\v=e.val) (fun i h=>h.IsValIter I d i es.size ep/\h.get? d=some o) where
 sub:=fun b hb=>by simp at hb;simp [hb]
 frame:=fun _ _ _ st hk=>⟨st.1.at fun o e=>hk I (by simp) o e,hk d (by simp) _ st.2⟩
 item:=fun i s Q E hi st hQ=>qX_ st.1 st.2 hdat (Ai hi) fun h' hit' hs'=>hQ _ h' s.toks ⟨_,Ai hi,rfl⟩ ⟨hit',hs'.extBut d _ hne st.2⟩ fun b o hb e=>hs'.extBut b o (fun h=>hb (by simp [h])) e
 done:=fun s Q E st hQ=>sF_ hh st.1 st.2 hdat (AA _) fun h' he'=>hQ h' s.toks fun b o hb e=>he' b o (fun h=>hb (by simp [h])) e
 self:=fun _ _ _ _ st hQ=>wpAny_pyIter_valiter st.1 hQ
theorem l6_ (ns:List Int):∀k,k<=ns.length->preSum (fun i=>ns.getD i 0) k=(ns.take k).sum
 |0,_=>by simp [preSum]
 |k+1,h=>by
  have hk:k<ns.length:=by lia
  have g:ns.getD k 0=ns[k]:=by simp [List.getD,hk]
  rw [preSum,l6_ ns k (by lia),AZ,A3 hk,C0];show _+ns.getD k 0=_+[ns[k]].sum;rw [g];simp
end
theorem cQ_ {α β:Type}{R:α->β->Prop}:∀{xs:List α}{ys:List β}{i:Nat}{x:α},Paired R xs ys->xs[i]? =some x->∃y,ys[i]? =some y/\R x y
 |_,_,i,x, .nil,h=>by simp at h
 |_,_,0,x, .cons r _,h=>by simp at h;subst h;exact⟨_,rfl,r⟩
 |_,_,i+1,x, .cons _ t,h=>by simp at h;obtain⟨y,e,r⟩:=cQ_ t h;exact⟨y,by simpa using e,r⟩
def Itk (d:Addr) (o:Obj) (kvs:List (List Key×V)):It:=
 ⟨fun i H=>H d=some (.frz o (.dT kvs))/\i<kvs.length,fun i H x H'=>H'=H/\∃b k v,x= .ref b/\kvs[i]? =some (k,v)/\H b=some (.tup (k.map kV)),fun i H=>H d=some (.frz o (.dT kvs))/\kvs.length<=i⟩
def uo_ (td:TE):TI:=fun σ H R=>td σ H fun x H1=>∃(d:Addr) (kvs:List (List Key×V)),x= .ref d/\Rd H1 d (.dT kvs)/\∀(o:Obj) (H2:Hp),H2 d=some (.frz o (.dT kvs))->(∀b,b≠d->H2 b=H1 b)->R (Itk d o kvs) H2
theorem lz_ {P:Program}{w:World}{K:W.Frag}{tg:Expr} (d it:Addr) (o:Obj) (kvs:List (List Key×V)) (ep:Nat) (hep:∀es' ep',o.data= .dict es' ep'->ep'=ep):Turn P w K tg (Itk d o kvs) [it] it (fun i h=>h.IsKeyIter it d i kvs.length ep) where
 mem:=by simp
 obj:=fun i h st b hb=>by
  have e:b=it:=by simpa using hb
  subst e;obtain⟨o,e,c,d⟩:=st;exact⟨o,e,fun v z=>by rw [d] at z;cases z⟩
 keep:=fun i h h' st k=>st.at fun o e=>k it (by simp) o e
 item:=by
  intro X hP hw hK hc i pins s σ H E I hf st hg;subst hP hw hK;obtain⟨hq,hi⟩:=hg;obtain⟨ho,z,y,xs,rel,o',es,ep',h1,h2,h3,h4,h5⟩:=(show aC_ X.prog X.w H s.heap d (.frz o (.dT kvs)) from I.hok d _ hq);obtain rfl:o=o':=Ae (ho.symm.trans h1);obtain rfl:ep'=ep:=hep _ _ h3;have hx:kvs[i]? =some kvs[i]:=A3 hi;obtain⟨q,hq1,e1,e2,e3⟩:=cQ_ rel hx;have hsz:es.size=kvs.length:=by rw [<-Ah,h4,A1,<-Be rel]
  have he:es[i]? =some (entryOfKey (tupleKind (aS_ X.prog X.w)) q):=by rw [<-Bu,h4,A9,hq1];rfl
  obtain⟨f0,f1,f2,f3,f4,f5⟩:=hf it (by simp);rw [<-hsz] at st;refine kp_ st ho h3 he fun h' st' sb=> ?_;have I1:Inv X pins σ H {s with heap:=h'}:=I.turned (t':=s.toks) (fun b o hb e=>(sb.2 b hb).trans e) f0 f1 f3 f4 f5;obtain⟨oo,e,c,d'⟩:=id st';rw [hsz] at st';exact⟨_,rfl,go_of (s:={s with heap:=h'}) e c d' (by decide) ⟨.ref q.2.1,H,I1,rfl,⟨rfl,q.2.1,kvs[i].1,kvs[i].2,rfl,hx,e2⟩,st',fun b hb=>(hf b hb).1⟩⟩
 done:=by
  intro X hP hw hK hc i pins s σ H E I hf st hg;subst hP hw hK;obtain⟨hq,hi⟩:=hg;obtain⟨ho,z,y,xs,rel,o',es,ep',h1,h2,h3,h4,h5⟩:=(show aC_ X.prog X.w H s.heap d (.frz o (.dT kvs)) from I.hok d _ hq);obtain rfl:o=o':=Ae (ho.symm.trans h1);obtain rfl:ep'=ep:=hep _ _ h3;have hsz:es.size=kvs.length:=by rw [<-Ah,h4,A1,<-Be rel]
  obtain⟨f0,f1,f2,f3,f4,f5⟩:=hf it (by simp);rw [<-hsz] at st;exact m7_ (I.ok.hd hc) st ho h3 (by lia) fun h' eb=>⟨rfl,I.turned (t':=s.toks) (fun b o hb e=>eb b o hb e) f0 f1 f3 f4 f5⟩
 self:=fun _ _ _ _ _ st h=>wpAny_pyIter_keyiter st h
section
variable {X:Cx}{tg:Expr}
theorem qZ_ {P:Program}{w:World}{H H':Hp}{h:Heap}{d:Addr}{kvs:List (List Key×V)} (q:aC_ P w H h d (.dT kvs)) (k:∀b ys,H b=some (.tup ys)->H' b=some (.tup ys)):aC_ P w H' h d (.dT kvs):=by
 obtain⟨z,y,xs,rel,r⟩:=q;exact⟨z,y,xs,KT.keeps rel fun c ys ec=>k c ys ec,r⟩
theorem p9_ {l:Expr}{tl:TE} (hl:PE X l tl):PI X tg l (uo_ tl):=by
 intro pins s σ H R I h;refine thn (hl pins s σ H _ I h) fun v s1 ⟨x,H1,I1,r1,q1⟩=> ?_;obtain⟨d,kvs,rfl,hq,q⟩:=q1;cases r1;have hob:aC_ X.prog X.w H1 s1.heap d (.dT kvs):=lZ_ I1.hok hq;obtain⟨z,y,xs,rel,o,es,ep,h1,h2,h3,h4,h5⟩:=id hob;have hsz:es.size=kvs.length:=by rw [<-Ah,h4,A1,<-Be rel]
 obtain⟨H2,I2,e2,k2⟩:∃H2,Inv X pins σ H2 s1/\H2 d=some (.frz o (.dT kvs))/\∀b,b≠d->H2 b=H1 b:=by
  rcases hq with hq|⟨o',hq⟩
  .exact⟨_,eb_ (t':=s1.toks) I1 (by rw [hq];exact True.intro) (Heap.SameBut.refl _ _) ⟨o,h1⟩ (show aC_ X.prog X.w (upd H1 d (.frz o (.dT kvs))) s1.heap d (.frz o (.dT kvs)) from⟨h1,qZ_ hob fun b ys e=>by rw [ak_ (qs_ e hq (fun z=>nomatch z))];exact e⟩),ag_,fun b hb=>ak_ hb⟩
  .obtain⟨ho',_⟩:=(show aC_ X.prog X.w H1 s1.heap d (.frz o' (.dT kvs)) from I1.hok d _ hq);obtain rfl:o'=o:=Ae (ho'.symm.trans h1);exact⟨H1,I1,hq,fun _ _=>rfl⟩
 refine ko_ y h1 h2 h3 ?_;rw [hsz];refine⟨s1.heap.objs.size,[s1.heap.objs.size],_,_,_,rfl,I2.kept (t':=s1.toks) fun b o e=>A6 _ e,lz_ d _ o kvs ep (fun es' ep' e=>by rw [h3] at e;cases e;rfl),⟨_,AF _ rfl,rfl,rfl⟩,fun b hb=> ?_,q o H2 e2 k2⟩;have e:b=s1.heap.objs.size:=by simpa using hb
 subst e;exact I2.fpOk (AA _) (I2.hok.fresh (AA _))
theorem oE_ {d:Addr}{o:Obj}{kvs:List (List Key×V)}{g:TG}{tb:TS}{D:Ends}{σ:St}{H:Hp} (Pv:Nat->St->Hp->Prop) (h0:Pv 0 σ H) (hl:∀i σ H,i<=kvs.length->Pv i σ H->H d=some (.frz o (.dT kvs)))
  (hs:∀i k v b σ H,kvs[i]? =some (k,v)->Pv i σ H->H b=some (.tup (k.map kV))->g (.ref b) σ H fun σ2 H2=>tb {D with nx:=Pv (i+1),ct:=Pv (i+1),bk:=D.nx} σ2 H2) (hd:∀σ H,Pv kvs.length σ H->D.nx σ H):
  ∃Wq:Nat->Nat->St->Hp->Prop,(∃m,Wq 0 m σ H)/\∀i m σ H,Wq i m σ H->
   ((Itk d o kvs).stop i H/\D.nx σ H)\/((Itk d o kvs).go i H/\∃N:St->Hp->Prop,(∀σ' H',N σ' H'->∃m',m'<m/\Wq (i+1) m' σ' H')/\∀x H',(Itk d o kvs).yld i H x H'->g x σ H' fun σ2 H2=>tb {D with nx:=N,ct:=N,bk:=D.nx} σ2 H2):=by
 refine⟨fun i m σ H=>m=kvs.length-i/\i<=kvs.length/\Pv i σ H,⟨kvs.length,by simp,AM _,h0⟩, ?_⟩;rintro i m σ H ⟨rfl,hi,p⟩;have q:=hl i σ H hi p;by_cases hlt:i<kvs.length
 .refine .inr ⟨⟨q,hlt⟩,Pv (i+1),fun σ' H' p'=>⟨kvs.length-(i+1),by lia,rfl,hlt,p'⟩, ?_⟩;rintro x H' ⟨rfl,b,k,v,rfl,e,hb⟩;exact hs i k v b σ _ e p hb
 .obtain rfl:i=kvs.length:=by lia
  exact .inl ⟨⟨q,AA _⟩,hd σ H p⟩
def rw_ (tk tv:TE):TE:=fun σ H Q=>∀p,H p=none->tk σ (upd H p (.dT [])) fun x H1=>tv σ H1 fun y H2=>H2 p=some (.dT [])/\∃k b,x= .ref b/\H2 b=some (.tup (k.map kV))/\Q (.ref p) (upd H2 p (.dT (dy_ [] k y)))
theorem n6_ {ek ev:Expr}{tk tv:TE}{pos:Pos} (hu:X.A.units+1<cLine) (hk:PE X ek tk) (hv:PE X ev tv):PE X (.Dict [some ek] [ev] pos) (rw_ tk tv):=by
 intro pins s σ H Q I q;have hn:=I.hok.fresh (AA s.heap.objs.size);have I1:=I.laid (a:=s.heap.objs.size) (o:= .dT []) (h':=s.heap.push {cls:= .type "dict",data:= .dict #[]}) (t':=s.toks) (fun _ _ q=>A6 _ q) (AA _) (kn_ s.heap I.big);rw [arm_eval_Dict,zip_pairTrees [some ek] [ev] X.env pos rfl rfl,dictDisplay_pairs (pairTrees [some ek] [ev] X.env pos) (by intro z;cases z) (show 1<17 by decide)];refine A0 (wpAny_standAt (A0 ?_));unfold subDict;refine A0 (wpAny_alloc ?_);refine A0 (Ar ?_);rw [A7 (show(pairTrees [some ek] [ev] X.env pos).length<=15 from(by decide:1<=15))];refine A0 (pairTrees_cons_walk (thn (hk pins _ σ _ _ I1 (q _ hn)) fun u s1 ⟨x,H1,I2,rx,q1⟩=>thn (hv pins s1 σ H1 _ I2 q1) fun w2 s2 ⟨y,H2,I3,ry,e,k,b,ex,eb,q2⟩=>pairTrees_nil_walk ?_));subst ex;cases (show u=Value.ref b from rx);obtain⟨z,hd,xs,rel,dd⟩:=sH_ I3.hok e;cases rel;refine wpAny_holding (wpAny_bind ?_);rw [List.forIn_cons];dsimp only;refine A0 (A0 (wpAny_dictSet_heap (knd:=tupleKind (aS_ X.prog X.w)) (show X.A.units<cLine by lia) (hL_ I3.hok eb) dd (fun h' dd' hs=>A2 ?_) (AM _)));dsimp only;rw [List.forIn_nil];refine wpAny_pure (wpAny_pure (wpAny_pure (wpAny_pure ?_)));obtain⟨o,es,ep,hq,h2,h3,h4,_,h5⟩:=dd';refine⟨.ref s.heap.objs.size,_,eb_ I3 (by rw [e];exact True.intro) hs ⟨o,hq⟩ (show aC_ X.prog X.w (upd H2 s.heap.objs.size (.dT (dy_ [] k y))) h' s.heap.objs.size (.dT (dy_ [] k y)) from⟨(by show 1<=sizeLine;decide),hd,_,KT.keeps (KT.put .nil k eb ry) fun c ys ec=> ?_,o,es,ep,hq,h2,h3,h4,h5⟩),rfl,q2⟩;rw [ak_ (qs_ ec e (fun z=>nomatch z))];exact ec
def tq_ (td:TE):TE:=fun σ H Q=>td σ H fun x H1=>∃(d:Addr) (kvs:List (List Key×V)) (ns:List Int),x= .ref d/\Rd H1 d (.dT kvs)/\kvs.map (·.2)=ns.map V.int/\Q (.int ns.sum) H1
theorem qa_ {e:Expr}{td:TE}{p apos cpos pos:Pos} (hc:X.calm=true) (hg:Gl X "sum") (hm:X.mg "sum"=none) (he:PE X e td)
  (he2:starEach [Expr.Call (.Attribute e "values" apos) [] [] cpos] X.env=(false,eval (Expr.Call (.Attribute e "values" apos) [] [] cpos) X.env)::starEach [] X.env:=by rfl)
  (hbase:attributeBase e "values" X.env (eval e X.env)=eval e X.env:=by rfl) (hline:(apos.endLine==cpos.line)=true:=by rfl):
  PE X (.Call (.Name "sum" p) [.Call (.Attribute e "values" apos) [] [] cpos] [] pos) (tq_ td):=by
 intro pins s σ H Q I h;refine Ba (cK_ I hg hm (by first|exact boot_sum|rfl|ac_nf) ?_ (by decide) (by decide));refine Cz ?_ he2 (by rfl);rw [he2];show wpAny _ _ (spliced ((false,eval (Expr.Call (.Attribute e "values" apos) [] [] cpos) X.env)::backTo pos (starEach [] X.env))) _ _ s;refine Cu ?_;refine wpAny_Call_method0_late hbase hline (thn (he pins s σ H _ I h) fun v s1 ⟨x,H1,I1,r1,q1⟩=> ?_);obtain⟨d,kvs,ns,rfl,hrd,hns,q⟩:=q1;cases r1;obtain⟨hT,hdi,hsys⟩:=pl_ I1 (.inr ⟨kvs,hrd⟩);obtain⟨z,y,xs,rel,o,es,ep,h1,h2,h3,h4,h5⟩:=(show aC_ X.prog X.w H1 s1.heap d (.dT kvs) from lZ_ I1.hok hrd);refine⟨"dict","dict.values",PySem.F.plainAttrs_dict,PySem.F.slot_dict_values,PySem.F.type_dict_values,hT,hdi,Calls.callWith_builtin rfl (PySem.evalArgs_none (qY_ hsys h1 h2 (A2 ?_)))⟩;show wpAny _ _ (call (.builtin "sum") [.ref s1.heap.objs.size]) _ _ _;have h1':(s1.heap.push {cls:= .type "dict_values",data:= .fields #[.ref d]}).get? d=some o:=A6 _ h1;have hdl:d<s1.heap.objs.size:=AI h1;have hsz:es.size=kvs.length:=by rw [<-Ah,h4,A1,<-Be rel]
 have hnl:ns.length=kvs.length:=by have:=Bb List.length hns;simpa using this.symm
 refine call_sum_walkAnyS (qW_ (s:={s1 with heap:=s1.heap.push {cls:= .type "dict_values",data:= .fields #[.ref d]}}) ⟨_,AF _ rfl,rfl,rfl⟩ h1' h3 ?_);refine⟨_,_,_,_,_,_,_,fun i=>ns.getD i 0,rfl,(lr_ (A:=X.A.in1) (I.ok.hd hc) (s1.heap.push {cls:= .type "dict_values",data:= .fields #[.ref d]}).objs.size d (by rw [Az];exact AL (Ad hdl)) h3).toS,⟨⟨_,AF _ rfl,rfl,rfl⟩,A6 _ h1'⟩, ?_, ?_, ?_⟩
 .intro b hb;simp only [AJ,As,Bo] at hb;rcases hb with rfl|rfl
  .show _<(Heap.push (s1.heap.push _) _).objs.size;rw [Az (s1.heap.push _)];exact BP _
  .show _<(Heap.push (s1.heap.push _) _).objs.size;rw [Az,Az];exact Ad (Ad hdl)
 .rintro i v ⟨e,hei,rfl⟩;rw [<-Bu,h4,A9] at hei;obtain⟨q',hq',rfl⟩:=A4.mp hei;have hi:i<kvs.length:=by rw [Be rel];exact(AD.mp hq').1
  obtain⟨q2,hq2,e1,e2,e3⟩:=cQ_ rel (A3 hi);rw [hq'] at hq2;cases hq2;have:kvs[i].2=V.int (ns.getD i 0):=by
   have z1:(kvs.map (·.2))[i]? =some kvs[i].2:=by rw [A9,A3 hi];rfl
   rw [hns,A9,A3 (by lia)] at z1;simp only [Option.map_some,B3] at z1;rw [<-z1,A8,A3 (by lia)];rfl
  rw [this] at e3;exact e3
 .intro s' t' hm';obtain⟨h',g',d',tk',os'⟩:=s';have eg:g'=s1.gens:=hm'.gens;have ed:d'=s1.drawn:=hm'.drawn;have eo:os'=s1.os:=hm'.os;subst eg;subst ed;subst eo;have es:preSum (fun i=>ns.getD i 0) es.size=ns.sum:=by rw [hsz,<-hnl,l6_ ns ns.length (AA _),AW]
  rw [es];refine⟨.int ns.sum,H1,I1.kept fun b o e=>hm'.heap b o (fun hb=> ?_) (A6 _ (A6 _ e)),⟨t',rfl⟩,q⟩;simp only [AJ,As,Bo] at hb;have:=AI e;rw [hb,Az] at this;exact absurd this (Nat.not_lt.mpr (C3 _))
end
end L2
namespace L2
open PySem PySem.Spec PyProof.Rows
section
variable {X:Cx}
theorem iT_:OpR X (binaryOp .Add) (fun x y H Q=>∃xs ys,Is H (.t xs) x/\Is H (.t ys) y/\xs.length+ys.length<=sizeLine/\∀v H2,an_ H H2->Is H2 (.t (xs++ys)) v->Q v H2):=by
 intro pins s σ H x y v u Q I rx ry h;obtain⟨xs,ys,hx,hy,hz,q⟩:=h;obtain⟨a,vs,rfl,ha,ra⟩:=hs_ hx;obtain⟨b,ws,rfl,hb,rb⟩:=hs_ hy;have l1:=ra.length;have l2:=rb.length;by_cases h1:vs=[]
 .subst h1;have hx0:xs=[]:=Cf.mp (by rw [<-l1];rfl);subst hx0;cases rx;cases ry;obtain⟨its,r1,p1,_⟩:=I.tuple (SqT.of (K:=X.K) ha);obtain⟨its2,r2,p2,_⟩:=I.tuple (SqT.of (K:=X.K) hb);cases r1;obtain⟨⟨cls,dd,data,sl⟩,ho,hc,n,hd⟩:=p1;obtain⟨⟨cls2,dd2,data2,sl2⟩,ho2,hc2,n2,hd2⟩:=p2;simp only at hc hd hc2 hd2;subst hc hd hc2 hd2;exact concat_meets ⟨_,ho,rfl⟩ ⟨_,ho2,rfl⟩ noFill_tuple_add seq_tuple_add PySem.F.slot_tuple_add PySem.F.entry_tuple_add (PySem.F.args_tuple_add_2 _ _) (tuple_addW0 a b _ _ n n2 dd dd2 sl sl2 (by simp)) ⟨ho,ho2,⟨.ref b,H,I,rfl,q _ H (an_.refl H) hy⟩⟩
 .refine qk_ pins s σ H (.ref a) (.ref b) v u Q I rx ry ⟨a,b,vs,ws,rfl,rfl,SqT.of ha,SqT.of hb,h1,by lia,fun e=> ?_,fun _ p np=> ?_⟩
  .have:ys=[]:=Cf.mp (by rw [<-l2,e];rfl);subst this;exact q _ H (an_.refl H) (by rw [Av];exact hx)
  .exact q _ _ (an_.new np) (gX_ ag_ ((ra.append rb).mono (an_.new np)))
theorem lH_:SlR X (fun x lo hi H Q=>∃xs xs',Is H (.t xs) x/\(∀(H':Hp) (vs:List V),Iss H' xs vs->Iss H' xs' (kr_ vs lo hi))/\(∀vs:List V,vs.length=xs.length->(HT.sIx vs.length 0 lo=0/\HT.sIx vs.length vs.length hi=vs.length)->xs'=xs)/\∀v H2,an_ H H2->Is H2 (.t xs') v->Q v H2):=by
 intro pins s σ H x v vl vu lo hi sl Q I rx hs pl pu h;obtain⟨xs,xs',hx,hc,hw,q⟩:=h;obtain⟨a,vs,rfl,ha,ra⟩:=hs_ hx;refine pY_ pins s σ H (.ref a) v vl vu lo hi sl Q I rx hs pl pu ⟨a,vs,rfl,SqT.of ha,fun e=> ?_,fun e p np=> ?_⟩
 .have:=hw vs ra.length e;subst this;exact q _ H (an_.refl H) hx
 .exact q _ _ (an_.new np) (gX_ ag_ ((hc _ _ ra).mono (an_.new np)))
end
def LTS (H H':Hp):Prop:=(∀b xs,H b=some (.lst xs)->H' b=some (.lst xs))/\∀b xs,H b=some (.tup xs)->H' b=some (.tup xs)
theorem LTS.dict {H:Hp}{d:Addr}{kvs:List (List Key×V)}{o:HO} (h:H d=some (.dT kvs)):LTS H (upd H d o):=
 ⟨fun b xs e=>by rw [ak_ (by rintro rfl;rw [h] at e;cases e)];exact e,fun b xs e=>by rw [ak_ (by rintro rfl;rw [h] at e;cases e)];exact e⟩
theorem LTS.rd {H H':Hp}{d:Addr}{kvs:List (List Key×V)} (h:Rd H d (.dT kvs)) (k:∀b,b≠d->H' b=H b):LTS H H':=by
 have nd:∀b o,H b=some o->(∀kvs,o≠ .dT kvs)->(∀ob u,o≠ .frz ob u)->b≠d:=by
  rintro b o e n1 n2 rfl;rcases h with h|⟨ob,h⟩
  .rw [h] at e;cases e;exact n1 _ rfl
  .rw [h] at e;cases e;exact n2 _ _ rfl
 exact⟨fun b xs e=>by rw [k b (nd b _ e (fun _ z=>nomatch z) fun _ _ z=>nomatch z)];exact e,fun b xs e=>by rw [k b (nd b _ e (fun _ z=>nomatch z) fun _ _ z=>nomatch z)];exact e⟩
mutual
theorem Is.lts {H H':Hp} (s:LTS H H'):∀{d:D}{v:V},Is H d v->Is H' d v
 | .i _,_,h=>by rw [do_ h];exact e4_
 | .l xs,_,h=>by
  obtain⟨a,vs,e,q,r⟩:=bT_ h;rw [e];exact cq_ (s.1 _ _ q) (Iss.lts s r)
 | .t xs,_,h=>by
  obtain⟨a,vs,e,q,r⟩:=hs_ h;rw [e];exact gX_ (s.2 _ _ q) (Iss.lts s r)
theorem Iss.lts {H H':Hp} (s:LTS H H'):∀{xs:List D}{vs:List V},Iss H xs vs->Iss H' xs vs
 |[],_,h=>by rw [bf_ h];exact am_
 |x::xs,_,h=>by
  obtain⟨u,us,e,q,r⟩:=aw_ h;rw [e];exact ai_ (Is.lts s q) (Iss.lts s r)
end
end L2
namespace L2
open PySem PySem.Spec PyProof.Rows PySem.W
theorem kO_ {k:Key}{v:Value} (h:hN_ k v=true):aZ_ (kV k) v:=by
 rcases aN_ h with⟨i,t,rfl,rfl⟩|⟨x,t,rfl,rfl⟩
 .exact⟨t,rfl⟩
 .exact⟨t,rfl⟩
theorem dA_ {P:Program}{w:World}:∀{es:List DictEntry}{vs:List (Key×Value)},Pairs (aS_ P w) es vs->es.length=vs.length
 |_,_, .nil=>rfl
 |_,_, .cons _ _ t=>by rw [AY,AY,dA_ t]
theorem hl_ {P:Program}{w:World}:∀{es:List DictEntry}{vs:List (Key×Value)}{i:Nat}{x:Key×Value},Pairs (aS_ P w) es vs->vs[i]? =some x->∃e,es[i]? =some e/\hN_ x.1 e.key=true
 |_,_,i,x, .nil,h=>by simp at h
 |_,_,0,x, .cons k _ _,h=>by simp at h;subst h;exact⟨_,rfl,k⟩
 |_,_,i+1,x, .cons _ _ t,h=>by simp at h;obtain⟨e,q,r⟩:=hl_ t h;exact⟨e,by simpa using q,r⟩
def Iti (d:Addr) (o:Obj) (kvs:List (Key×V)):It:=
 ⟨fun i H=>H d=some (.frz o (.dK kvs))/\i<kvs.length,fun i H x H'=>H'=H/\∃k v,x=kV k/\kvs[i]? =some (k,v),fun i H=>H d=some (.frz o (.dK kvs))/\kvs.length<=i⟩
def sy_ (td:TE):TI:=fun σ H R=>td σ H fun x H1=>∃(d:Addr) (kvs:List (Key×V)),x= .ref d/\Rd H1 d (.dK kvs)/\∀(o:Obj) (H2:Hp),H2 d=some (.frz o (.dK kvs))->(∀b,b≠d->H2 b=H1 b)->R (Iti d o kvs) H2
theorem kC_ {P:Program}{w:World}{K:W.Frag}{tg:Expr} (d it:Addr) (o:Obj) (kvs:List (Key×V)) (ep:Nat) (hep:∀es' ep',o.data= .dict es' ep'->ep'=ep):Turn P w K tg (Iti d o kvs) [it] it (fun i h=>h.IsKeyIter it d i kvs.length ep) where
 mem:=by simp
 obj:=fun i h st b hb=>by
  have e:b=it:=by simpa using hb
  subst e;obtain⟨o,e,c,d⟩:=st;exact⟨o,e,fun v z=>by rw [d] at z;cases z⟩
 keep:=fun i h h' st k=>st.at fun o e=>k it (by simp) o e
 item:=by
  intro X hP hw hK hc i pins s σ H E I hf st hg;subst hP hw hK;obtain⟨hq,hi⟩:=hg;obtain⟨ho,z,y,vs,rel,o',es,ep',h1,h2,h3,hk,h4,h5⟩:=(show aC_ X.prog X.w H s.heap d (.frz o (.dK kvs)) from I.hok d _ hq);obtain rfl:o=o':=Ae (ho.symm.trans h1);obtain rfl:ep'=ep:=hep _ _ h3;have hx:kvs[i]? =some kvs[i]:=A3 hi;obtain⟨q,hq1,e1,e2⟩:=cQ_ rel hx;obtain⟨en,he',hkey⟩:=hl_ h4 hq1;have hsz:es.size=kvs.length:=by rw [<-Ah,dA_ h4,<-Be rel]
  have he:es[i]? =some en:=by rw [<-Bu];exact he'
  obtain⟨f0,f1,f2,f3,f4,f5⟩:=hf it (by simp);rw [<-hsz] at st;refine kp_ st ho h3 he fun h' st' sb=> ?_;have I1:Inv X pins σ H {s with heap:=h'}:=I.turned (t':=s.toks) (fun b o hb e=>(sb.2 b hb).trans e) f0 f1 f3 f4 f5;obtain⟨oo,e,c,d'⟩:=id st';rw [hsz] at st';rw [<-e1] at hkey;exact⟨_,rfl,go_of (s:={s with heap:=h'}) e c d' (by decide) ⟨kV kvs[i].1,H,I1,kO_ hkey,⟨rfl,kvs[i].1,kvs[i].2,rfl,hx⟩,st',fun b hb=>(hf b hb).1⟩⟩
 done:=by
  intro X hP hw hK hc i pins s σ H E I hf st hg;subst hP hw hK;obtain⟨hq,hi⟩:=hg;obtain⟨ho,z,y,vs,rel,o',es,ep',h1,h2,h3,hk,h4,h5⟩:=(show aC_ X.prog X.w H s.heap d (.frz o (.dK kvs)) from I.hok d _ hq);obtain rfl:o=o':=Ae (ho.symm.trans h1);obtain rfl:ep'=ep:=hep _ _ h3;have hsz:es.size=kvs.length:=by rw [<-Ah,dA_ h4,<-Be rel]
  obtain⟨f0,f1,f2,f3,f4,f5⟩:=hf it (by simp);rw [<-hsz] at st;exact m7_ (I.ok.hd hc) st ho h3 (by lia) fun h' eb=>⟨rfl,I.turned (t':=s.toks) (fun b o hb e=>eb b o hb e) f0 f1 f3 f4 f5⟩
 self:=fun _ _ _ _ _ st h=>wpAny_pyIter_keyiter st h
section
variable {X:Cx}{tg:Expr}
theorem jH_ {l:Expr}{tl:TE} (hl:PE X l tl):PI X tg l (sy_ tl):=by
 intro pins s σ H R I h;refine thn (hl pins s σ H _ I h) fun v s1 ⟨x,H1,I1,r1,q1⟩=> ?_;obtain⟨d,kvs,rfl,hq,q⟩:=q1;cases r1;have hob:aC_ X.prog X.w H1 s1.heap d (.dK kvs):=lZ_ I1.hok hq;obtain⟨z,y,vs,rel,o,es,ep,h1,h2,h3,hk,h4,h5⟩:=id hob;have hsz:es.size=kvs.length:=by rw [<-Ah,dA_ h4,<-Be rel]
 obtain⟨H2,I2,e2,k2⟩:∃H2,Inv X pins σ H2 s1/\H2 d=some (.frz o (.dK kvs))/\∀b,b≠d->H2 b=H1 b:=by
  rcases hq with hq|⟨o',hq⟩
  .exact⟨_,eb_ (t':=s1.toks) I1 (by rw [hq];exact True.intro) (Heap.SameBut.refl _ _) ⟨o,h1⟩ (show aC_ X.prog X.w (upd H1 d (.frz o (.dK kvs))) s1.heap d (.frz o (.dK kvs)) from⟨h1,hob⟩),ag_,fun b hb=>ak_ hb⟩
  .obtain⟨ho',_⟩:=(show aC_ X.prog X.w H1 s1.heap d (.frz o' (.dK kvs)) from I1.hok d _ hq);obtain rfl:o'=o:=Ae (ho'.symm.trans h1);exact⟨H1,I1,hq,fun _ _=>rfl⟩
 refine ko_ y h1 h2 h3 ?_;rw [hsz];refine⟨s1.heap.objs.size,[s1.heap.objs.size],_,_,_,rfl,I2.kept (t':=s1.toks) fun b o e=>A6 _ e,kC_ d _ o kvs ep (fun es' ep' e=>by rw [h3] at e;cases e;rfl),⟨_,AF _ rfl,rfl,rfl⟩,fun b hb=> ?_,q o H2 e2 k2⟩;have e:b=s1.heap.objs.size:=by simpa using hb
 subst e;exact I2.fpOk (AA _) (I2.hok.fresh (AA _))
theorem hT_ {d:Addr}{o:Obj}{kvs:List (Key×V)}{g:TG}{tb:TS}{D:Ends}{σ:St}{H:Hp} (Pv:Nat->St->Hp->Prop) (h0:Pv 0 σ H) (hl:∀i σ H,i<=kvs.length->Pv i σ H->H d=some (.frz o (.dK kvs)))
  (hs:∀i k v σ H,kvs[i]? =some (k,v)->Pv i σ H->g (kV k) σ H fun σ2 H2=>tb {D with nx:=Pv (i+1),ct:=Pv (i+1),bk:=D.nx} σ2 H2) (hd:∀σ H,Pv kvs.length σ H->D.nx σ H):
  ∃Wq:Nat->Nat->St->Hp->Prop,(∃m,Wq 0 m σ H)/\∀i m σ H,Wq i m σ H->
   ((Iti d o kvs).stop i H/\D.nx σ H)\/((Iti d o kvs).go i H/\∃N:St->Hp->Prop,(∀σ' H',N σ' H'->∃m',m'<m/\Wq (i+1) m' σ' H')/\∀x H',(Iti d o kvs).yld i H x H'->g x σ H' fun σ2 H2=>tb {D with nx:=N,ct:=N,bk:=D.nx} σ2 H2):=by
 refine⟨fun i m σ H=>m=kvs.length-i/\i<=kvs.length/\Pv i σ H,⟨kvs.length,by simp,AM _,h0⟩, ?_⟩;rintro i m σ H ⟨rfl,hi,p⟩;have q:=hl i σ H hi p;by_cases hlt:i<kvs.length
 .refine .inr ⟨⟨q,hlt⟩,Pv (i+1),fun σ' H' p'=>⟨kvs.length-(i+1),by lia,rfl,hlt,p'⟩, ?_⟩;rintro x H' ⟨rfl,k,v,rfl,e⟩;exact hs i k v σ _ e p
 .obtain rfl:i=kvs.length:=by lia
  exact .inl ⟨⟨q,AA _⟩,hd σ H p⟩
end
end L2
namespace L2
open PySem PySem.Spec PyProof.Rows PySem.W
section
variable {prog:Program}{w:World}{K:Type} [DecidableEq K] {knd:KeyKind prog w K}
variable {A:Around}{E:Value->Shared->Prop}{s:Shared}
theorem iK_ {ks:List K}{a:Addr}{n:Nat}{Q:Bool->Shared->Prop} (hk:IsTupleKey knd s.heap ks a) (h:Q true s):wpAny (model prog w) A (eqIsQuiet (n+1) (.ref a)) Q E s:=by
 have hT:=hk.typeIs;obtain⟨o,items,n,ho,_,hd,hi⟩:=hk;unfold eqIsQuiet;refine A0 (CI hT F.slot_tuple_eq.lookup ?_);show wpAny _ _ (isInstance (.ref a) (.type "tuple")>>=_) _ _ s;refine A0 (Bw hT isSubtype_tuple_tuple ?_);simp only [BE,AH,Am];refine A0 (Bi ho hd ?_);refine A0 ?_;show wpAny _ _ (forIn items _ _) _ _ s;rw [<-Ce];refine Bx _ (fun cl_ r s'=>r.1=none/\s'=s/\∀v∈cl_,carriedByValue v=true) _ ?_ ?_ _ _ ⟨rfl,rfl,hi.byValue⟩
 .rintro v cl_ r s' ⟨hr,rfl,hall⟩;rw [eqIsQuiet_byValue _ (hall v AX)];refine A0 (A2 ?_);simp only [BE,AH,Am];exact A2 ⟨rfl,rfl,fun u hu'=>hall u (AR _ hu')⟩
 .rintro⟨r1,r2⟩ s' ⟨hr,rfl,_⟩;simp only at hr;subst hr;exact A2 h
end
end L2
namespace L2
open PySem PySem.Spec PyProof.Rows PySem.W
theorem mQ_ {A:Around}{k:Nat} (hr:Room k A):A.units+2<cLine:=by have:=hr.un;lia
section
variable {P:Program}{w:World}{H:Hp}{h:Heap}{a:Addr}
theorem j9_:∀{ks:List Int}{us:List Value},aV_ (ks.map V.int) us->ItemsAre (intKind P w) ks us
 |[],_,r=>by rw [D8] at r;cases r;exact .nil
 |k::ks,_,r=>by
  rw [AK] at r;cases r with
  |cons h t=>
   obtain⟨t',rfl⟩:=h;exact .cons (show Value.isInt k (.int k t')=true by simp [Value.isInt]) (j9_ t)
theorem sp_ {ks:List Int} (ok:HOk P w H h) (e:H a=some (.tup (ks.map V.int))):IsTupleKey (intKind P w) h ks a:=by
 obtain⟨_,its,r,o,h1,h2,n,h3⟩:=(show aC_ P w H h a (.tup (ks.map V.int)) from ok a _ e);exact⟨o,its.toArray,n,h1,h2,h3,by simpa using j9_ r⟩
end
section
variable {X:Cx}{pins:List (Addr×Obj)}{σ:St}{H:Hp}{s:Shared}{a b:Addr}{v:V}{r:Value}{A:Around}{E:Value->Shared->Prop}{kvs:List (List (List Int)×V)}{ks:List (List Int)}
end
section
variable {X:Cx}{o i e f value ek ev:Expr}{pos pos' apos cpos:Pos}{td ty tv tx tk:TE}
end
end L2
namespace L2
open PySem PySem.Spec PyProof.Rows PySem.W
section
variable {prog:Program}{w:World}{A:Around}{E:Value->Shared->Prop}{s:Shared}
end
section
variable {X:Cx}
end
end L2
namespace L2
open PySem PyProof.Rows
def mW_:Bool->Keyed->Array Keyed->Nat->Nat->Nat->StateT SortSt Sem (Option Nat):=sortPriv%PySem.Builtin.gallop
def kW_:Array Keyed->Array Keyed->StateT SortSt Sem (Array Keyed):=sortPriv%PySem.Builtin.mergeLo
def bX_ {γ:Type} (step:γ->Option (Bool×γ)):Nat->γ->Option γ
 |0,g=>some g
 |f+1,g=>(step g).bind fun r=>if r.1=true then some r.2 else bX_ step f r.2
section
variable {M:Model}{A:Around}{E:Value->Shared->Prop}{s:Shared}{σ:Type}
theorem aA_ {β γ:Type}{step:γ->Option (Bool×γ)} (φ:γ->β) (τ:γ->σ) {f:Nat->β->StateT σ Sem (ForInStep β)}{Q:β->σ->Prop}
  (hs:∀x g r,step g=some r->∀R:ForInStep β->σ->Prop,R (if r.1=true then .done (φ r.2) else .yield (φ r.2)) (τ r.2)->wpS M A E s (f x (φ g)) R (τ g))
  {a b:Nat}{g g':γ} (h:bX_ step (b-a) g=some g') (hq:Q (φ g') (τ g')):wpS M A E s (forIn [a:b] (φ g) f) Q (τ g):=by
 rw [Std.Legacy.Range.forIn_eq_forIn_range'];have hsz:([a:b]:Std.Legacy.Range).size=b-a:=by simp [Std.Legacy.Range.size]
 show wpS M A E s (forIn (List.range' a ([a:b]:Std.Legacy.Range).size 1) (φ g) f) Q (τ g);rw [hsz];have go:∀(k:Nat) (l:List Nat) (g:γ),l.length=k->bX_ step k g=some g'->wpS M A E s (forIn l (φ g) f) Q (τ g):=by
  intro k;induction k with
  |zero=>
   intro l g hl h;cases l with
   |nil=>rw [List.forIn_nil];cases h;exact Aa hq
   |cons _ _=>simp at hl
  |succ k ih=>
   intro l g hl h;cases l with
   |nil=>simp at hl
   |cons x l=>
    rw [CY];unfold bX_ at h;obtain⟨r,hr,h⟩:=AB.mp h;refine AO (hs x g r hr _ ?_);by_cases hd:r.1=true
    .rw [A7 hd] at h⊢;cases h;exact Aa hq
    .rw [A5 hd] at h⊢;exact ih l r.2 (by simpa using hl) h
 exact go _ _ g (by simp) h
end
section
variable {prog:Program}{w:World}{A:Around}{E:Value->Shared->Prop}{s:Shared}{item:Nat->Keyed}{c:Nat->Nat->Option Bool}{kd:SortKind}
def cN_ (kd:SortKind) (prog:Program) (w:World) (A:Around) (s:Shared) (item:Nat->Keyed) (c:Nat->Nat->Option Bool):Prop:=
 ∀i j b,c i j=some b->∀Q:Bool->Shared->Prop,Q b s->wpAny (model prog w) A (keyLt' kd (item i).1 (item j).1) Q (fun _ _=>False) s
theorem eD_ (hc:cN_ kd prog w A s item c) {st:SortSt} (hk:kindOf st=kd) {i j:Nat}{b:Bool} (h:c i j=some b) {Q:Option Bool->SortSt->Prop} (hq:Q (some b) st):wpS (model prog w) A E s (lt' (item i) (item j)) Q st:=by
 rw [lt'_eq];refine AO (wpS_get ?_);rw [hk];refine AO (wpS_lift (Bv (BU (hc i j b h _ ⟨rfl,Aa hq⟩) (fun _ _ h=>h) fun _ _ hF=>hF.elim)))
theorem bm_ {st:SortSt}{arr:Array Nat}{i x:Nat} (h:arr[i]? =some x) {Q:Keyed->SortSt->Prop} (hq:Q (item x) st):wpS (model prog w) A E s (elem' (arr.map item) i) Q st:=by
 rw [elem'_eq,Array.getElem?_map,h];exact Aa hq
def dI_ (c:Nat->Nat->Option Bool) (left:Bool) (key:Nat) (arr:Array Nat) (i:Nat):Option Bool:=arr[i]?.bind fun x=>if left=true then c x key else(c key x).map (!·)
def qO_ (b:Nat->Option Bool) (m:Nat) (g:Nat×Nat):Option (Bool×Nat×Nat):=if g.2>=m then some (true,g) else(b g.2).map fun y=>if y=true then(false,g.2,2*g.2+1) else(true,g)
def qP_ (b:Nat->Option Bool) (m:Nat) (g:Nat×Nat):Option (Bool×Nat×Nat):=if g.2>=m then some (true,g) else(b g.2).map fun y=>if y=true then(true,g) else(false,g.2,2*g.2+1)
def hR_ (b:Nat->Option Bool) (g:Nat×Nat):Option (Bool×Nat×Nat):=
 if g.1>=g.2 then some (true,g) else(b (g.1+(g.2-g.1)/2)).map fun y=>if y=true then(false,g.1+(g.2-g.1)/2+1,g.2) else(false,g.1,g.1+(g.2-g.1)/2)
def qN_ (c:Nat->Nat->Option Bool) (left:Bool) (key:Nat) (arr:Array Nat) (base n hint:Nat):Option Nat:=
 (dI_ c left key arr (base+hint)).bind fun right=>
  (if right=true then(bX_ (qO_ (fun o=>dI_ c left key arr (base+(hint+o))) (n-hint)) n (0,1)).map fun g=>(hint+g.1+1,hint+min g.2 (n-hint))
   else(bX_ (qP_ (fun o=>dI_ c left key arr (base+(hint-o))) (hint+1)) n (0,1)).map fun g=>(hint+1-min g.2 (hint+1),hint-g.1)).bind fun lh=>
   (bX_ (hR_ fun i=>dI_ c left key arr (base+i)) n lh).map (·.2)
theorem b2_ (hc:cN_ kd prog w A s item c) {st:SortSt} (hk:kindOf st=kd) {left:Bool}{key:Nat}{arr:Array Nat}{i:Nat}{b:Bool} (h:dI_ c left key arr i=some b) {Q:Option Bool->SortSt->Prop} (hq:Q (some b) st):
  wpS (model prog w) A E s (do
   let x<-elem' (arr.map item) i
   if left=true then lt' x (item key) else do
    let y<-lt' (item key) x
    pure (y.map (!·))) Q st:=by
 obtain⟨x,hx,h⟩:=AB.mp h;refine AO (bm_ hx ?_);by_cases hl:left=true
 .rw [A7 hl] at h⊢;exact eD_ hc hk h hq
 .rw [A5 hl] at h⊢;obtain⟨y,hy,rfl⟩:=A4.mp h;exact AO (eD_ hc hk hy (Aa hq))
theorem fu_ (hc:cN_ kd prog w A s item c) {st:SortSt} (hk:kindOf st=kd) {left:Bool}{key:Nat}{arr:Array Nat}{base n hint k:Nat} (h:qN_ c left key arr base n hint=some k) {Q:Option Nat->SortSt->Prop} (hq:Q (some k) st):
  wpS (model prog w) A E s (mW_ left (item key) (arr.map item) base n hint) Q st:=by
 (unfold wpS;wp_delta;wp_delta;wp_delta;refine(show wpS _ _ _ _ _ _ _ from ?_))
 dsimp only;obtain⟨right,hr,h⟩:=AB.mp h;obtain⟨lh,h1,h2⟩:=AB.mp h;obtain⟨lh2,h3,rfl⟩:=A4.mp h2;refine AO (b2_ hc hk hr ?_);dsimp only;by_cases e:right=true
 .rw [A7 e] at h1⊢;obtain⟨g0,h0,rfl⟩:=A4.mp h1;refine AO (aA_ (γ:=Nat×Nat) (step:=qO_ (fun o=>dI_ c left key arr (base+(hint+o))) (n-hint)) (fun g=>(none,g.1,g.2)) (fun _=>st) (fun x g r hs R hR=> ?_) (a:=0) (b:=n) (g:=(0,1)) (g':=g0) h0 ?_)
  .unfold qO_ at hs;dsimp only;by_cases e:g.2>=n-hint
   .rw [A7 e] at hs⊢;cases hs;exact Aa hR
   .rw [A5 e] at hs⊢;obtain⟨y,hy,rfl⟩:=A4.mp hs;refine AO (b2_ hc hk hy ?_);cases y<;>exact Aa hR
  .dsimp only;refine AO (aA_ (γ:=Nat×Nat) (step:=hR_ fun i=>dI_ c left key arr (base+i)) (fun g=>(none,g.1,g.2)) (fun _=>st) (fun x g r hs R hR=> ?_) (a:=0) (b:=n) (g:=(hint+g0.1+1,hint+min g0.2 (n-hint))) (g':=lh2) h3 (Aa hq));unfold hR_ at hs;dsimp only;by_cases e:g.1>=g.2
   .rw [A7 e] at hs⊢;cases hs;exact Aa hR
   .rw [A5 e] at hs⊢;obtain⟨y,hy,rfl⟩:=A4.mp hs;refine AO (b2_ hc hk hy ?_);cases y<;>exact Aa hR
 .rw [A5 e] at h1⊢;obtain⟨g0,h0,rfl⟩:=A4.mp h1;refine AO (aA_ (γ:=Nat×Nat) (step:=qP_ (fun o=>dI_ c left key arr (base+(hint-o))) (hint+1)) (fun g=>(none,g.1,g.2)) (fun _=>st) (fun x g r hs R hR=> ?_) (a:=0) (b:=n) (g:=(0,1)) (g':=g0) h0 ?_)
  .unfold qP_ at hs;dsimp only;by_cases e:g.2>=hint+1
   .rw [A7 e] at hs⊢;cases hs;exact Aa hR
   .rw [A5 e] at hs⊢;obtain⟨y,hy,rfl⟩:=A4.mp hs;refine AO (b2_ hc hk hy ?_);cases y<;>exact Aa hR
  .dsimp only;refine AO (aA_ (γ:=Nat×Nat) (step:=hR_ fun i=>dI_ c left key arr (base+i)) (fun g=>(none,g.1,g.2)) (fun _=>st) (fun x g r hs R hR=> ?_) (a:=0) (b:=n) (g:=(hint+1-min g0.2 (hint+1),hint-g0.1)) (g':=lh2) h3 (Aa hq));unfold hR_ at hs;dsimp only;by_cases e:g.1>=g.2
   .rw [A7 e] at hs⊢;cases hs;exact Aa hR
   .rw [A5 e] at hs⊢;obtain⟨y,hy,rfl⟩:=A4.mp hs;refine AO (b2_ hc hk hy ?_);cases y<;>exact Aa hR
def gv_ (a b out:Array Nat) (ia ib:Nat):Array Nat:=out++a.extract ia a.size++b.extract ib b.size
def gu_ (a b out:Array Nat) (ia ib:Nat):Array Nat:=out++b.extract ib b.size++a.extract ia a.size
def qu_ (c:Nat->Nat->Option Bool) (a b:Array Nat) (sg:Nat):Option (Array Nat×Nat):=
 b[0]?.bind fun y=>
  if(1==b.size)=true then some (gv_ a b #[y] 0 1,sg)
  else if(0+1==a.size)=true then some (gu_ a b #[y] 0 1,sg)
  else none
abbrev tD_ (st:SortSt) (g:Nat):SortSt:=SortSt.mk' (kindOf st) (arrOf st) (pendingOf st) g (failedOf st)
theorem hz_ (a b out:Array Nat) (ia ib:Nat):(gv_ a b out ia ib).map item=out.map item++(a.map item).extract ia (a.map item).size++(b.map item).extract ib (b.map item).size:=by
 unfold gv_;simp
theorem hy_ (a b out:Array Nat) (ia ib:Nat):(gu_ a b out ia ib).map item=out.map item++(b.map item).extract ib (b.map item).size++(a.map item).extract ia (a.map item).size:=by
 unfold gu_;simp
theorem cs_ {M:Model}{σ α:Type}{c:Prop} [Decidable c] {x y:StateT σ Sem α}{Q:α->σ->Prop}{st:σ} (hc:c) (h:wpS M A E s x Q st):wpS M A E s (if c then x else y) Q st:=by
 rw [A7 hc];exact h
theorem eB_ {M:Model}{σ α:Type}{c:Prop} [Decidable c] {x y:StateT σ Sem α}{Q:α->σ->Prop}{st:σ} (hc:¬c) (h:wpS M A E s y Q st):wpS M A E s (if c then x else y) Q st:=by
 rw [A5 hc];exact h
set_option maxHeartbeats 4000000 in
theorem kF_ (hc:cN_ kd prog w A s item c) {st:SortSt} (hk:kindOf st=kd) {a b out:Array Nat}{g:Nat} (h:qu_ c a b (gallopOf st)=some (out,g)) {Q:Array Keyed->SortSt->Prop} (hq:Q (out.map item) (tD_ st g)):
  wpS (model prog w) A E s (kW_ (a.map item) (b.map item)) Q st:=by
 obtain⟨κ,ar,pd,g0,fl⟩:=st
 (unfold wpS;wp_delta;wp_delta;wp_delta;refine(show wpS _ _ _ _ _ _ _ from ?_))
 refine AO (wpS_lift (CB ⟨rfl, ?_⟩));unfold qu_ at h;obtain⟨y,hy,h⟩:=AB.mp h;refine AO (bm_ hy ?_);by_cases e1:(1==b.size)=true
 .rw [A7 e1] at h;cases h;refine cs_ (by simpa using e1) (Aa ?_);rw [hz_] at hq;simpa using hq
 rw [A5 e1] at h;by_cases e2:(0+1==a.size)=true
 .rw [A7 e2] at h;cases h;refine eB_ (by simpa using e1) (cs_ (by simpa using e2) (Aa ?_));rw [hy_] at hq;simpa using hq
 rw [A5 e2] at h;cases h
end
end L2
namespace L2
open PySem PyProof.Rows
section
variable {prog:Program}{w:World}{A:Around}{E:Value->Shared->Prop}{s:Shared}{item:Nat->Keyed}{c:Nat->Nat->Option Bool}{kd:SortKind}
def uh_ (c:Nat->Nat->Option Bool) (a b:Array Nat) (sg:Nat):Option (Array Nat×Nat):=none
end
end L2
namespace L2
open PySem PyProof.Rows
def e1_ {γ:Type} (step:Nat->γ->Option (Bool×γ)):Nat->Nat->γ->Option γ
 |0,_,g=>some g
 |f+1,i,g=>(step i g).bind fun r=>if r.1=true then some r.2 else e1_ step f (i+1) r.2
section
variable {M:Model}{A:Around}{E:Value->Shared->Prop}{s:Shared}{σ:Type}
theorem ir_ {β γ:Type}{step:Nat->γ->Option (Bool×γ)} (φ:γ->β) (τ:γ->σ) {f:Nat->β->StateT σ Sem (ForInStep β)}{Q:β->σ->Prop}
  (hs:∀x g r,step x g=some r->∀R:ForInStep β->σ->Prop,R (if r.1=true then .done (φ r.2) else .yield (φ r.2)) (τ r.2)->wpS M A E s (f x (φ g)) R (τ g))
  {a b:Nat}{g g':γ} (h:e1_ step (b-a) a g=some g') (hq:Q (φ g') (τ g')):wpS M A E s (forIn [a:b] (φ g) f) Q (τ g):=by
 rw [Std.Legacy.Range.forIn_eq_forIn_range'];have hsz:([a:b]:Std.Legacy.Range).size=b-a:=by simp [Std.Legacy.Range.size]
 show wpS M A E s (forIn (List.range' a ([a:b]:Std.Legacy.Range).size 1) (φ g) f) Q (τ g);rw [hsz];have go:∀(k i:Nat) (g:γ),e1_ step k i g=some g'->wpS M A E s (forIn (List.range' i k 1) (φ g) f) Q (τ g):=by
  intro k;induction k with
  |zero=>
   intro i g h;cases h;rw [List.range'_zero,List.forIn_nil];exact Aa hq
  |succ k ih=>
   intro i g h;rw [List.range'_succ,CY];unfold e1_ at h;obtain⟨r,hr,h⟩:=AB.mp h;refine AO (hs i g r hr _ ?_);by_cases hd:r.1=true
   .rw [A7 hd] at h⊢;cases h;exact Aa hq
   .rw [A5 hd] at h⊢;exact ih (i+1) r.2 h
 exact go _ a g h
end
section
variable {prog:Program}{w:World}{A:Around}{E:Value->Shared->Prop}{s:Shared}{item:Nat->Keyed}{c:Nat->Nat->Option Bool}{kd:SortKind}{pd:Array (Nat×Nat×Nat)}{g:Nat}
abbrev bb_ (kd:SortKind) (item:Nat->Keyed) (p:Array Nat) (pd:Array (Nat×Nat×Nat)) (g:Nat):SortSt:=SortSt.mk' kd (p.map item) pd g none
def lc_ (c:Nat->Nat->Option Bool) (p:Array Nat) (i j:Nat):Option Bool:=p[i]?.bind fun x=>p[j]?.bind fun y=>c x y
theorem a0_ (hc:cN_ kd prog w A s item c) {p:Array Nat}{i j:Nat}{b:Bool} (h:lc_ c p i j=some b) {Q:Option Bool->SortSt->Prop} (hq:Q (some b) (bb_ kd item p pd g)):wpS (model prog w) A E s (ltAt' i j) Q (bb_ kd item p pd g):=by
 obtain⟨x,hx,h⟩:=AB.mp h;obtain⟨y,hy,h⟩:=AB.mp h;rw [ltAt'_eq];refine AO (wpS_get ?_);dsimp only;exact AO (bm_ hx (AO (bm_ hy (eD_ hc rfl h hq))))
def iJ_ (p:Array Nat) (i j:Nat):Array Nat:=mirror p i j ((j-i)/2)
theorem a2_ {p:Array Nat}{i j:Nat}{Q:Unit->SortSt->Prop} (h:Q () (bb_ kd item (iJ_ p i j) pd g)):wpS (model prog w) A E s (reverseSlice' i j) Q (bb_ kd item p pd g):=by
 rw [reverseSlice'_eq];refine D5 ?_;have e1:mirror (p.map item) i j ((j-i)/2)=(iJ_ p i j).map item:=W.kas_swaps_map item (fun k=>i+k) (fun k=>j-1-k) _ p;show Q () (SortSt.mk' kd (mirror (p.map item) i j ((j-i)/2)) pd g none);rw [e1];exact h
theorem iw_ {p:Array Nat}{k l:Nat}{Q:Unit->SortSt->Prop} (h:Q () (bb_ kd item (bubble p k (k-l)) pd g)):wpS (model prog w) A E s (moveDown' k l) Q (bb_ kd item p pd g):=by
 rw [moveDown'_eq];refine D5 ?_;have e1:bubble (p.map item) k (k-l)=(bubble p k (k-l)).map item:=W.kas_swaps_map item (fun i=>k-i) (fun i=>k-i-1) _ p;show Q () (SortSt.mk' kd (bubble (p.map item) k (k-l)) pd g none);rw [e1];exact h
def fd_ (c:Nat->Nat->Option Bool) (p:Array Nat) (l:Nat) (m:Nat):Option (Bool×Nat):=(lc_ c p (l+m) (l+m-1)).map fun q=>if q=true then(true,m) else(false,m+1)
def fc_ (c:Nat->Nat->Option Bool) (l:Nat) (t:Array Nat×Nat×Nat):Option (Bool×Array Nat×Nat×Nat):=
 (lc_ c t.1 (l+t.2.1) (l+t.2.1-1)).bind fun q=>
  if q=true then if t.2.2>0 then some (false,iJ_ t.1 (l+t.2.1-(t.2.2+1)) (l+t.2.1),t.2.1+1,0) else some (false,t.1,t.2.1+1,0)
  else(lc_ c t.1 (l+t.2.1-1) (l+t.2.1)).bind fun r=>if r=true then some (true,t.1,t.2.1,t.2.2) else some (false,t.1,t.2.1+1,t.2.2+1)
def gS_ (c:Nat->Nat->Option Bool) (l n:Nat) (p:Array Nat) (m:Nat):Option (Nat×Array Nat):=(bX_ (fd_ c (iJ_ p l (l+m)) l) (n-m) m).map fun k=>(k,iJ_ p l (l+m))
def gT_ (c:Nat->Nat->Option Bool) (l n:Nat) (p:Array Nat) (m:Nat):Option (Nat×Array Nat):=
 (bX_ (fc_ c l) (n-(m+1)) (p,m+1,0)).bind fun t=>if t.2.2>0 then gS_ c l n (iJ_ t.1 (l+t.2.1-(t.2.2+1)) (l+t.2.1)) t.2.1 else gS_ c l n t.1 t.2.1
def np_ (c:Nat->Nat->Option Bool) (l n:Nat) (p:Array Nat):Option (Nat×Array Nat):=
 (bX_ (fd_ c p l) (n-1) 1).bind fun m=>if(m==n)=true then some (m,p) else if m>1 then(lc_ c p l (l+m-1)).bind fun q=>if q=true then some (m,p) else gT_ c l n (iJ_ p l (l+m)) m else gT_ c l n p m
set_option maxHeartbeats 2000000 in
theorem kE_ (hc:cN_ kd prog w A s item c) {l n k:Nat}{p p':Array Nat} (h:np_ c l n p=some (k,p')) {Q:Option Nat->SortSt->Prop} (hq:Q (some k) (bb_ kd item p' pd g)):wpS (model prog w) A E s (countRun' l n) Q (bb_ kd item p pd g):=by
 (unfold wpS;wp_delta;wp_delta;wp_delta;refine(show wpS _ _ _ _ _ _ _ from ?_))
 dsimp only;unfold np_ at h;obtain⟨m,h0,h⟩:=AB.mp h;have hz:=h0
 (
  refine AO (aA_ (γ:=Nat) (step:=fd_ c _ l) (fun m=>(none,m)) (fun _=>bb_ kd item _ pd g) (fun x m r hs R hR=> ?_) hz ?_)
  .obtain⟨q,hq1,rfl⟩:=A4.mp hs;refine AO (a0_ hc hq1 ?_);cases q<;>exact Aa hR)
 dsimp only;by_cases e1:(m==n)=true
 .rw [A7 e1] at h⊢;cases h;exact Aa hq
 rw [A5 e1] at h⊢;by_cases e2:m>1
 .rw [A7 e2] at h⊢;obtain⟨q,hq1,h⟩:=AB.mp h;refine AO (a0_ hc hq1 ?_);dsimp only;by_cases e3:q=true
  .rw [A7 e3] at h⊢;cases h;exact Aa hq
  rw [A5 e3] at h⊢;refine AO (a2_ ?_);unfold gT_ gS_ at h
  (
   refine AO (wpS_lift (CB ⟨rfl, ?_⟩));obtain⟨t,h1,h2⟩:=AB.mp h;refine AO (aA_ (γ:=Array Nat×Nat×Nat) (step:=fc_ c l) (fun t=>(none,t.2.1,t.2.2)) (fun t=>bb_ kd item t.1 pd g) (fun x t r hs R hR=> ?_) h1 ?_)
   .unfold fc_ at hs;obtain⟨q,hq1,hs⟩:=AB.mp hs;refine AO (a0_ hc hq1 ?_);cases q with
    |true=>
     dsimp only;rw [A7 rfl] at hs⊢;split at hs
     .rename_i z;rw [A7 z];cases hs;exact AO (a2_ (Aa hR))
     .rename_i z;rw [A5 z];cases hs;exact Aa hR
    |false=>
     dsimp only;rw [A5 (by simp)] at hs⊢;obtain⟨r,hr1,hs⟩:=AB.mp hs;refine AO (a0_ hc hr1 ?_);cases r<;>(cases hs;exact Aa hR)
   .dsimp only;split at h2
    .rename_i z;rw [A7 z];refine AO (a2_ ?_);refine AO (a2_ ?_);obtain⟨k2,h3,h4⟩:=A4.mp h2;cases h4;have hz:=h3
     (
      refine AO (aA_ (γ:=Nat) (step:=fd_ c _ l) (fun m=>(none,m)) (fun _=>bb_ kd item _ pd g) (fun x m r hs R hR=> ?_) hz ?_)
      .obtain⟨q,hq1,rfl⟩:=A4.mp hs;refine AO (a0_ hc hq1 ?_);cases q<;>exact Aa hR)
     exact Aa hq
    .rename_i z;rw [A5 z];refine AO (a2_ ?_);obtain⟨k2,h3,h4⟩:=A4.mp h2;cases h4;have hz:=h3
     (
      refine AO (aA_ (γ:=Nat) (step:=fd_ c _ l) (fun m=>(none,m)) (fun _=>bb_ kd item _ pd g) (fun x m r hs R hR=> ?_) hz ?_)
      .obtain⟨q,hq1,rfl⟩:=A4.mp hs;refine AO (a0_ hc hq1 ?_);cases q<;>exact Aa hR)
     exact Aa hq)
 .rw [A5 e2] at h⊢;unfold gT_ gS_ at h
  (
   refine AO (wpS_lift (CB ⟨rfl, ?_⟩));obtain⟨t,h1,h2⟩:=AB.mp h;refine AO (aA_ (γ:=Array Nat×Nat×Nat) (step:=fc_ c l) (fun t=>(none,t.2.1,t.2.2)) (fun t=>bb_ kd item t.1 pd g) (fun x t r hs R hR=> ?_) h1 ?_)
   .unfold fc_ at hs;obtain⟨q,hq1,hs⟩:=AB.mp hs;refine AO (a0_ hc hq1 ?_);cases q with
    |true=>
     dsimp only;rw [A7 rfl] at hs⊢;split at hs
     .rename_i z;rw [A7 z];cases hs;exact AO (a2_ (Aa hR))
     .rename_i z;rw [A5 z];cases hs;exact Aa hR
    |false=>
     dsimp only;rw [A5 (by simp)] at hs⊢;obtain⟨r,hr1,hs⟩:=AB.mp hs;refine AO (a0_ hc hr1 ?_);cases r<;>(cases hs;exact Aa hR)
   .dsimp only;split at h2
    .rename_i z;rw [A7 z];refine AO (a2_ ?_);refine AO (a2_ ?_);obtain⟨k2,h3,h4⟩:=A4.mp h2;cases h4;have hz:=h3
     (
      refine AO (aA_ (γ:=Nat) (step:=fd_ c _ l) (fun m=>(none,m)) (fun _=>bb_ kd item _ pd g) (fun x m r hs R hR=> ?_) hz ?_)
      .obtain⟨q,hq1,rfl⟩:=A4.mp hs;refine AO (a0_ hc hq1 ?_);cases q<;>exact Aa hR)
     exact Aa hq
    .rename_i z;rw [A5 z];refine AO (a2_ ?_);obtain⟨k2,h3,h4⟩:=A4.mp h2;cases h4;have hz:=h3
     (
      refine AO (aA_ (γ:=Nat) (step:=fd_ c _ l) (fun m=>(none,m)) (fun _=>bb_ kd item _ pd g) (fun x m r hs R hR=> ?_) hz ?_)
      .obtain⟨q,hq1,rfl⟩:=A4.mp hs;refine AO (a0_ hc hq1 ?_);cases q<;>exact Aa hR)
     exact Aa hq)
def q0_ (c:Nat->Nat->Option Bool) (p:Array Nat) (l k:Nat) (t:Nat×Nat):Option (Bool×Nat×Nat):=
 if t.1>=t.2 then some (true,t.1,t.2) else(lc_ c p (l+k) (l+(t.1+t.2)/2)).bind fun q=>if q=true then some (false,t.1,(t.1+t.2)/2) else some (false,(t.1+t.2)/2+1,t.2)
def pD_ (c:Nat->Nat->Option Bool) (l k:Nat) (p:Array Nat):Option (Bool×Array Nat):=(bX_ (q0_ c p l k) k (0,k)).map fun t=>(false,bubble p (l+k) (l+k-(l+t.1)))
def nr_ (c:Nat->Nat->Option Bool) (l n ok:Nat) (p:Array Nat):Option (Array Nat):=e1_ (pD_ c l) (n-max ok 1) (max ok 1) p
theorem kG_ (hc:cN_ kd prog w A s item c) {l n ok:Nat}{p p':Array Nat} (h:nr_ c l n ok p=some p') {Q:Bool->SortSt->Prop} (hq:Q true (bb_ kd item p' pd g)):wpS (model prog w) A E s (binarySort' l n ok) Q (bb_ kd item p pd g):=by
 (unfold wpS;wp_delta;wp_delta;wp_delta;refine(show wpS _ _ _ _ _ _ _ from ?_))
 dsimp only;refine AO (ir_ (γ:=Array Nat) (step:=pD_ c l) (fun _=>(none,())) (fun p=>bb_ kd item p pd g) (fun k p r hs R hR=> ?_) h (Aa hq));obtain⟨t,ht,rfl⟩:=A4.mp hs;refine AO (aA_ (γ:=Nat×Nat) (step:=q0_ c p l k) (fun t=>(none,t.1,t.2)) (fun _=>bb_ kd item p pd g) (fun x t r hs R hR=> ?_) (a:=0) (b:=k) ht ?_)
 .unfold q0_ at hs;dsimp only;by_cases e:t.1>=t.2
  .rw [A7 e] at hs⊢;cases hs;exact Aa hR
  .rw [A5 e] at hs⊢;obtain⟨q,hq1,hs⟩:=AB.mp hs;refine AO (a0_ hc hq1 ?_);cases q<;>(cases hs;exact Aa hR)
 .exact AO (iw_ (Aa hR))
end
end L2
namespace L2
open PySem PyProof.Rows
section
variable {prog:Program}{w:World}{A:Around}{E:Value->Shared->Prop}{s:Shared}{item:Nat->Keyed}{c:Nat->Nat->Option Bool}{kd:SortKind}
abbrev vi_:=Array (Nat×Nat×Nat)
def qB_ (p:Array Nat) (o:Nat) (xs:Array Nat):Array Nat:=xs.toList.zipIdx.foldl (fun a x=>a.setIfInBounds (o+x.2) x.1) p
theorem mD_ (p:Array Nat) (o:Nat) (xs:Array Nat):(xs.map item).toList.zipIdx.foldl (fun a x=>a.setIfInBounds (o+x.2) x.1) (p.map item)=(qB_ p o xs).map item:=by
 have go:∀(l:List Nat) (k:Nat) (p:Array Nat),((l.map item).zipIdx k).foldl (fun a x=>a.setIfInBounds (o+x.2) x.1) (p.map item)=((l.zipIdx k).foldl (fun a x=>a.setIfInBounds (o+x.2) x.1) p).map item:=by
  intro l;induction l with
  |nil=>intro k p;rfl
  |cons x l ih=>
   intro k p;rw [AK,List.zipIdx_cons,List.zipIdx_cons,CD,CD];rw [show(p.map item).setIfInBounds (o+k) (item x)=(p.setIfInBounds (o+k) x).map item from(Array.map_setIfInBounds ..).symm];exact ih _ _
 rw [Array.toList_map];exact go _ 0 p
abbrev jn_:=Array Nat×vi_×Nat
def om_ (c:Nat->Nat->Option Bool) (i:Nat) (t:jn_):Option jn_:=
 t.2.1[i]?.bind fun u=>t.2.1[i+1]?.bind fun v=>t.1[v.1]?.bind fun y=>(qN_ c false y t.1 u.1 u.2.1 0).bind fun k=>
  if(u.2.1-k==0)=true then some (t.1,(t.2.1.setIfInBounds i (u.1,u.2.1+v.2.1,u.2.2)).eraseIdxIfInBounds (i+1),t.2.2)
  else t.1[u.1+k+(u.2.1-k)-1]?.bind fun x=>(qN_ c true x t.1 v.1 v.2.1 (v.2.1-1)).bind fun nb=>
   if(nb==0)=true then some (t.1,(t.2.1.setIfInBounds i (u.1,u.2.1+v.2.1,u.2.2)).eraseIdxIfInBounds (i+1),t.2.2)
   else if u.2.1-k<=nb then(qu_ c (t.1.extract (u.1+k) v.1) (t.1.extract v.1 (v.1+nb)) t.2.2).bind fun r=>some (qB_ t.1 (u.1+k) r.1,(t.2.1.setIfInBounds i (u.1,u.2.1+v.2.1,u.2.2)).eraseIdxIfInBounds (i+1),r.2)
   else(uh_ c (t.1.extract (u.1+k) v.1) (t.1.extract v.1 (v.1+nb)) t.2.2).bind fun r=>some (qB_ t.1 (u.1+k) r.1,(t.2.1.setIfInBounds i (u.1,u.2.1+v.2.1,u.2.2)).eraseIdxIfInBounds (i+1),r.2)
theorem ln_ {M:Model}{σ:Type}{x:σ}{Q:PUnit->σ->Prop}{st:σ} (h:Q ⟨⟩ x):wpS M A E s (set x:StateT σ Sem PUnit) Q st:=by
 unfold wpS;show wpAny M A (pure ((),x)) _ E s;exact A2 ⟨rfl,h⟩
set_option maxHeartbeats 2000000 in
theorem dO_ (hc:cN_ kd prog w A s item c) {i:Nat}{t t':jn_} (h:om_ c i t=some t') {Q:Bool->SortSt->Prop} (hq:Q true (bb_ kd item t'.1 t'.2.1 t'.2.2)):wpS (model prog w) A E s (mergeAt' i) Q (bb_ kd item t.1 t.2.1 t.2.2):=by
 (unfold wpS;wp_delta;wp_delta;wp_delta;refine(show wpS _ _ _ _ _ _ _ from ?_))
 dsimp only;refine AO (wpS_get ?_);unfold om_ at h;obtain⟨⟨sa,na,pw⟩,hu,h⟩:=AB.mp h;obtain⟨⟨sb,nb,pw2⟩,hv,h⟩:=AB.mp h;obtain⟨y,hy,h⟩:=AB.mp h;obtain⟨k,hk,h⟩:=AB.mp h;dsimp only at*
 rw [hu,hv];dsimp only;refine AO (ln_ ?_);refine AO (bm_ hy ?_);refine AO (fu_ hc rfl hk ?_);dsimp only;by_cases e1:(na-k==0)=true
 .rw [A7 e1] at h;cases h;exact cs_ e1 (Aa hq)
 rw [A5 e1] at h;refine eB_ e1 ?_;obtain⟨x,hx,h⟩:=AB.mp h;obtain⟨nb2,hk2,h⟩:=AB.mp h;refine AO (bm_ hx ?_);refine AO (fu_ hc rfl hk2 ?_);by_cases e2:(nb2==0)=true
 .rw [A7 e2] at h;cases h;exact cs_ e2 (Aa hq)
 rw [A5 e2] at h;refine eB_ e2 ?_;have x1:(t.1.map item).extract (sa+k) sb=(t.1.extract (sa+k) sb).map item:=by simp
 have x2:(t.1.map item).extract sb (sb+nb2)=(t.1.extract sb (sb+nb2)).map item:=by simp
 by_cases e3:na-k<=nb2
 .rw [A7 e3] at h;obtain⟨r,hr,h⟩:=AB.mp h;cases h;refine cs_ e3 (AO (by
   rw [x1,x2];refine kF_ hc rfl hr ?_;refine AO (D5 ?_);refine AO (wpS_get (Aa ?_));dsimp only;rw [mD_];exact hq))
 .rw [A5 e3] at h;obtain⟨r,hr,h⟩:=AB.mp h;cases hr
end
end L2
namespace L2
open PySem PyProof.Rows
section
variable {prog:Program}{w:World}{A:Around}{E:Value->Shared->Prop}{s:Shared}{item:Nat->Keyed}{c:Nat->Nat->Option Bool}{kd:SortKind}
def hf_ (c:Nat->Nat->Option Bool) (pw:Nat) (t:jn_):Option (Bool×jn_):=
 match(if t.2.1.size>1 then t.2.1[t.2.1.size-2]? else none) with
 |some u=>if u.2.2<=pw then some (true,t) else(om_ c (t.2.1.size-2) t).bind fun t'=>some (false,t')
 |none=>some (true,t)
def f1_ (c:Nat->Nat->Option Bool) (size lo n:Nat) (t:jn_):Option (Bool×Nat×jn_):=
 match t.2.1.back? with
 |some u=>(bX_ (hf_ c (power' size (2*u.1+u.2.1) (2*u.1+u.2.1+u.2.1+n) size)) size t).bind fun t'=>
  some (false,lo+n,t'.1,(t'.2.1.modify (t'.2.1.size-1) fun x=>(x.1,x.2.1,power' size (2*u.1+u.2.1) (2*u.1+u.2.1+u.2.1+n) size)).push (lo,n,0),t'.2.2)
 |none=>some (false,lo+n,t.1,t.2.1.push (lo,n,0),t.2.2)
def lM_ (c:Nat->Nat->Option Bool) (size:Nat) (g:Nat×jn_):Option (Bool×Nat×jn_):=
 if g.1>=size then some (true,g) else(np_ c g.1 (size-g.1) g.2.1).bind fun r=>
  if r.1<minRun' size size 0 then(nr_ c g.1 (min (size-g.1) (minRun' size size 0)) r.1 r.2).bind fun p2=>f1_ c size g.1 (min (size-g.1) (minRun' size size 0)) (p2,g.2.2)
  else f1_ c size g.1 r.1 (r.2,g.2.2)
def lN_ (c:Nat->Nat->Option Bool) (t:jn_):Option (Bool×jn_):=
 if t.2.1.size<=1 then some (true,t)
 else(om_ c (if Option.any (fun x=>decide (x<t.2.1[t.2.1.size-2+1]?.elim 0 fun x=>x.2.1)) (if t.2.1.size-2>0 then Option.map (fun x=>x.2.1) t.2.1[t.2.1.size-2-1]? else none)=true then t.2.1.size-2-1 else t.2.1.size-2) t).bind fun t'=>some (false,t')
def eM_ (c:Nat->Nat->Option Bool) (n:Nat):Option (Array Nat):=
 (bX_ (lM_ c n) n (0,List.toArray (List.range n), #[],7)).bind fun g=>(bX_ (lN_ c) n g.2).map (·.1)
set_option maxHeartbeats 2000000 in
theorem iv_ (hc:cN_ kd prog w A s item c) {n:Nat}{p:Array Nat} (h:eM_ c n=some p) {Q:Unit->SortSt->Prop} (hq:∀pd g,Q () (bb_ kd item p pd g)):wpS (model prog w) A E s sortRuns' Q (bb_ kd item (List.toArray (List.range n)) #[] 7):=by
 rw [sortRuns'_eq];try dsimp only
 refine AO (wpS_get ?_);have hz:(arrOf (bb_ kd item (List.toArray (List.range n)) #[] 7)).size=n:=by
  show((List.toArray (List.range n)).map item).size=n;simp
 rw [hz];unfold eM_ at h;obtain⟨g,h1,h⟩:=AB.mp h;obtain⟨t,h2,rfl⟩:=A4.mp h;refine AO (aA_ (γ:=Nat×jn_) (step:=lM_ c n) (fun g=>(none,g.1)) (fun g=>bb_ kd item g.2.1 g.2.2.1 g.2.2.2) (fun x g r hs R hR=> ?_) (a:=0) (b:=n) (g:=(0,List.toArray (List.range n), #[],7)) h1 ?_)
 .unfold lM_ at hs;try dsimp only
  by_cases e1:g.1>=n
  .rw [A7 e1] at hs⊢;cases hs;exact Aa hR
  rw [A5 e1] at hs⊢;obtain⟨k,hk,hs⟩:=AB.mp hs;refine AO (kE_ hc hk ?_);try dsimp only
  by_cases e2:k.1<minRun' n n 0
  .rw [A7 e2] at hs⊢;obtain⟨p2,hp,hs⟩:=AB.mp hs;refine AO (wpS_lift (CB ⟨rfl, ?_⟩));refine AO (kG_ hc hp ?_);simp only [BE,AH,Am]
   (
    unfold f1_ at hs;refine AO (wpS_get ?_);try dsimp only at hs⊢
    split at hs
    .rename_i u hu;rw [hu];try dsimp only
     obtain⟨t',ht,hs⟩:=AB.mp hs;cases hs;refine AO (aA_ (γ:=jn_) (step:=hf_ c _) (fun _=>(none,())) (fun t=>bb_ kd item t.1 t.2.1 t.2.2) (fun x t r hs R hR=> ?_) (a:=0) ht ?_)
     .unfold hf_ at hs;refine AO (wpS_get ?_);try dsimp only
      split at hs
      .rename_i v hv;rw [hv];try dsimp only
       split at hs
       .rename_i z;rw [A7 z];cases hs;exact Aa hR
       .rename_i z;rw [A5 z];obtain⟨t',hm,hs⟩:=AB.mp hs;cases hs;exact AO (dO_ hc hm (Aa hR))
      .rename_i hv;rw [hv];cases hs;exact Aa hR
     .try dsimp only
      exact AO (D5 (AO (D5 (Aa hR))))
    .rename_i hu;rw [hu];cases hs;exact AO (D5 (Aa hR)))
  .rw [A5 e2] at hs⊢
   (
    unfold f1_ at hs;refine AO (wpS_get ?_);try dsimp only at hs⊢
    split at hs
    .rename_i u hu;rw [hu];try dsimp only
     obtain⟨t',ht,hs⟩:=AB.mp hs;cases hs;refine AO (aA_ (γ:=jn_) (step:=hf_ c _) (fun _=>(none,())) (fun t=>bb_ kd item t.1 t.2.1 t.2.2) (fun x t r hs R hR=> ?_) (a:=0) ht ?_)
     .unfold hf_ at hs;refine AO (wpS_get ?_);try dsimp only
      split at hs
      .rename_i v hv;rw [hv];try dsimp only
       split at hs
       .rename_i z;rw [A7 z];cases hs;exact Aa hR
       .rename_i z;rw [A5 z];obtain⟨t',hm,hs⟩:=AB.mp hs;cases hs;exact AO (dO_ hc hm (Aa hR))
      .rename_i hv;rw [hv];cases hs;exact Aa hR
     .try dsimp only
      exact AO (D5 (AO (D5 (Aa hR))))
    .rename_i hu;rw [hu];cases hs;exact AO (D5 (Aa hR)))
 .try dsimp only
  refine AO (aA_ (γ:=jn_) (step:=lN_ c) (fun _=>(none,())) (fun t=>bb_ kd item t.1 t.2.1 t.2.2) (fun x t r hs R hR=> ?_) (a:=0) (b:=n) (g:=g.2) h2 (Aa (hq _ _)));unfold lN_ at hs;refine AO (wpS_get ?_);try dsimp only
  by_cases e1:t.2.1.size<=1
  .rw [A7 e1] at hs⊢;cases hs;exact Aa hR
  rw [A5 e1] at hs⊢;obtain⟨t',hm,hs⟩:=AB.mp hs;cases hs;exact AO (dO_ hc hm (Aa hR))
end
end L2
namespace L2
open PySem PySem.Spec PyProof.Rows PySem.W
section
variable {prog:Program}{w:World}{A:Around}{E:Value->Shared->Prop}{s:Shared}
theorem iC_ {kd:SortKind}{a:Addr}{vs:List Value}{n:Nat}{c:Nat->Nat->Option Bool}{p:Array Nat}{P:PySem.Fin->Shared->Prop} (ho:s.heap.get? a=some (seqObj "list" vs.toArray n)) (h2:2<=vs.length) (hL:vs.length<=1000) (hp:p.size<=1000)
  (hkd:∀(R:SortKind->Shared->Prop),R kd {s with heap:=aK_ s.heap a vs}->wpAny (model prog w) A (keyKind' vs.toArray) R E {s with heap:=aK_ s.heap a vs}) (hc:cN_ kd prog w A {s with heap:=aK_ s.heap a vs} (fS_ vs) c) (hs:eM_ c vs.length=some p)
  (h:P (.done (.ret .none)) {s with heap:=sortedHeap s.heap a vs (p.map fun i=>vs.getD i .none)}):wpAny (model prog w) A (Builtin.«list.sort» ⟨[.ref a],[]⟩) P E s:=by
 rw [list_sort_plain];have ha:a<s.heap.objs.size:=AI ho;refine A0 (listItems_at ho rfl ?_);refine A0 (Ca ho rfl ?_ (by rw [AE,Aw];lia) (AM _));obtain⟨e1,ho1⟩:∃e1,(s.heap.update a (Obj.mapSeq fun _=>(#[]:Array Value))).get? a=some (seqObj "list" #[] e1):=⟨_,CW ho (fun _=> #[])⟩;refine A0 (seqEpoch_at ho1 rfl ?_);refine A0 (wpAny_newTuple ?_ (by show vs.length<=_;rw [Aw];lia));refine A0 (Ck ?_ (AM _));refine Ar ?_;have ho6:(aK_ s.heap a vs).get? a=some (seqObj "list" #[] e1):=by
  rw [B5 _ _ _ (by rw [Bl,B1];exact AL (Ad ha)),B5 _ _ _ (by rw [B1];exact AL ha)];exact ho1
 show wpAny (model prog w) A _ P E {s with heap:=aK_ s.heap a vs};dsimp only;have hn2:¬vs.toArray.size<2:=by rw [AE];lia
 rw [A5 hn2,A5 hn2];refine A0 (hkd _ ?_);have run:=iv_ (E:=E) hc hs (Q:=fun _ st'=>arrOf st'=p.map (fS_ vs)/\failedOf st'=none) fun pd g=>⟨rfl,rfl⟩;have est:bb_ kd (fS_ vs) (List.toArray (List.range vs.length)) #[] 7=SortSt.mk' kd (vs.toArray.zip vs.toArray) #[] 7 none:=by
  show SortSt.mk' kd ((List.toArray (List.range vs.length)).map (fS_ vs)) #[] 7 none=_;rw [iu_]
 rw [est] at run;refine A0 (BU run ?_ fun _ _ e=>e);rintro⟨⟨⟩,st'⟩ s' ⟨rfl,har,hf⟩;dsimp only at har hf⊢;have eo:(arrOf st').map (·.2)=p.map fun i=>vs.getD i .none:=by
  rw [har,Array.map_map];rfl
 rw [eo];refine A0 (seqEpoch_at ho6 rfl ?_);refine A0 (Ca ho6 rfl ?_ (AM _) (by rw [Array.size_map,Aw];lia));rw [hf];simp only [Cm,AH,Am];exact A2 h
theorem fV_ {kd:SortKind}{l:Addr}{vs:List Value}{c:Nat->Nat->Option Bool}{p:Array Nat}{Q:Value->Shared->Prop} (hl:s.heap.IsList l vs.toArray) (h2:2<=vs.length) (hL:vs.length<=1000) (hp:p.size<=1000)
  (hkd:∀(R:SortKind->Shared->Prop) (E:Value->Shared->Prop),R kd {s with heap:=bq_ s.heap vs}->wpAny (model prog w) A.in1.in1 (keyKind' vs.toArray) R E {s with heap:=bq_ s.heap vs}) (hc:cN_ kd prog w A.in1.in1 {s with heap:=bq_ s.heap vs} (fS_ vs) c) (hs:eM_ c vs.length=some p)
  (h:Q (.ref (s.heap.objs.size+1)) {s with heap:=sortedAll s.heap vs (p.map fun i=>vs.getD i .none)}):wpAny (model prog w) A (call (.builtin "sorted") [.ref l]) Q E s:=by
 refine Ch kind_sorted plain_sorted entry_sorted (args_sorted1 _) ?_;unfold Builtin.«sorted»;refine A0 (m:=checkCount "sorted" 1 1 _) (A2 ?_);refine A0 (collect_list hl ?_ (by rw [Aw];lia));refine A0 (Ck ?_ (by rw [Aw];lia));have hsz:((s.heap.push (seqObj "list" #[] 0)).update s.heap.objs.size (Obj.mapSeq (· ++vs.toArray))).objs.size=s.heap.objs.size+1:=by
  rw [B1,Bl]
 have hoL:(((s.heap.push (seqObj "list" #[] 0)).update s.heap.objs.size (Obj.mapSeq (· ++vs.toArray))).push (seqObj "list" vs.toArray 0)).get? (s.heap.objs.size+1)=some (seqObj "list" vs.toArray 0):=by
  rw [<-hsz];exact AF _ rfl
 show wpAny _ _ _ _ _ {s with heap:=((s.heap.push (seqObj "list" #[] 0)).update s.heap.objs.size (Obj.mapSeq (· ++vs.toArray))).push (seqObj "list" vs.toArray 0)};rw [hsz];refine A0 (Ar (Ab DI ⟨_,hoL,rfl⟩ DH (iC_ (s:={s with heap:=((s.heap.push (seqObj "list" #[] 0)).update s.heap.objs.size (Obj.mapSeq (· ++vs.toArray))).push (seqObj "list" vs.toArray 0)}) hoL h2 hL hp (fun R=>hkd R _) hc hs ⟨_,rfl, ?_⟩) (DJ _)));exact A2 ⟨_,rfl,h⟩
end
def hh_ (K:W.Frag):List V->Hp->VK->Prop:=fun vs H Q=>∃(l:Addr) (rs:List V) (c:Nat->Nat->Option Bool) (p:Array Nat),vs=[.ref l]/\SqL K H l rs/\2<=rs.length/\rs.length<=1000/\p.size<=1000/\(∀r∈rs,∃a ys,r= .ref a/\SqL K H a ys)/\
 (∀i j b,c i j=some b->∃x y,rs[i]? =some x/\rs[j]? =some y/\Ask K H x y b)/\eM_ c rs.length=some p/\(∀i∈p.toList,i<rs.length)/\∀q,H q=none->Q (.ref q) (upd H q (.lst (p.toList.map fun i=>rs.getD i .non)))
section
variable {X:Cx}
theorem fo_ {k:Nat} (hr:Room k X.A):bQ_ X (.builtin "sorted") (hh_ X.K):=by
 intro pins s σ H xs us Q I r h;obtain⟨l,rs,c,p,rfl,hq,h2,hL,hps,hty,hask,hs,hpl,q⟩:=h;obtain⟨u,rfl,rx⟩:=ek_ r;cases rx;obtain⟨its,r',pl,hz⟩:=I.list hq;have ln:=r'.length;have hu:=hr.un;have I2:Inv X pins σ H {s with heap:=bq_ s.heap its}:=I.kept (t':=s.toks) fun b o e=>ef_ e;refine fV_ (kd:=oneType') (vs:=its) (c:=c) (p:=p) pl.isList (by lia) (by lia) hps (fun R E hR=>kas_kind (T:= .type "list") (by lia) (fun v hv=> ?_) rfl rfl hR) (fun i j b hb Q' hq'=> ?_) (by rw [<-ln];exact hs) ?_
 .obtain⟨i,hi,rfl⟩:=C4.mp hv;have hi':i<rs.length:=by lia
  obtain⟨a,ys,e1,hy⟩:=hty rs[i] (CQ hi');obtain⟨u,hu1,ru⟩:=r'.get (A3 hi');rw [A3 hi] at hu1;rw [e1] at ru;obtain rfl:u=Value.ref a:=ru;rw [Ae hu1];obtain⟨js,r2,p2,z2⟩:=I2.list hy;obtain⟨o,ho,hc,_⟩:=p2.isList;exact hc▸(Looks.ld ho).andThen .now
 .obtain⟨x,y,hx,hy,a1,a2,xs,ys,d,es,fs,rfl,rfl,h1,h2,hd,he,hf,rfl⟩:=hask i j b hb;obtain⟨u,hu1,ru⟩:=r'.get hx;obtain⟨v,hv1,rv⟩:=r'.get hy;obtain rfl:u=Value.ref a1:=ru;obtain rfl:v=Value.ref a2:=rv;have g1:(fS_ its i).1= .ref a1:=by show its.getD i .none=_;rw [List.getD,hu1];rfl
  have g2:(fS_ its j).1= .ref a2:=by show its.getD j .none=_;rw [List.getD,hv1];rfl
  rw [g1,g2];exact LtR.key I2 h1 h2 he hf (by rw [aI_,aI_];lia) hq'
 .obtain⟨e,he⟩:=sortedAll_at s.heap its (p.map fun i=>its.getD i .none);have en:(p.map fun i=>its.getD i .none)=List.toArray (p.toList.map fun i=>its.getD i .none):=by
   apply Array.toList_inj.mp;simp
  rw [en] at he⊢;refine⟨.ref (s.heap.objs.size+1),_,I.laid (t':=s.toks) (fun _ _=>sortedAll_old) (C3 _) (show aC_ X.prog X.w _ _ _ (.lst (p.toList.map fun i=>rs.getD i .non)) from⟨?_,_,e,dp_ r' p.toList hpl,he⟩),rfl,q _ (I.hok.fresh (C3 _))⟩;rw [A1,Ah,Aw];lia
end
section
variable {X:Cx}
def kP_ (K:W.Frag):List V->Hp->VK->Prop:=fun vs H Q=>(∃(l:Addr) (rs:List V),vs=[.ref l]/\SqL K H l rs/\rs.length<2/\∀q,H q=none->Q (.ref q) (upd H q (.lst rs)))\/hh_ K vs H Q
theorem fp_ {k:Nat} (hr:Room k X.A):bQ_ X (.builtin "sorted") (kP_ X.K):=by
 intro pins s σ H xs us Q I r h;rcases h with h|h
 .obtain⟨l,rs,rfl,hq,h2,q⟩:=h;obtain⟨u,rfl,rx⟩:=ek_ r;cases rx;obtain⟨its,r',pl,hz⟩:=I.list hq;have ln:=r'.length;refine fv_ (vs:=its) pl.isList (by lia) ?_;obtain⟨e,he⟩:=sortedAll_at s.heap its its.toArray;exact⟨.ref (s.heap.objs.size+1),_,I.laid (t':=s.toks) (fun _ _=>sortedAll_old) (C3 _) (show aC_ X.prog X.w _ _ _ (.lst rs) from⟨hz,its,e,r',he⟩),rfl,q _ (I.hok.fresh (C3 _))⟩
 .exact fo_ hr pins s σ H xs us Q I r h
end
end L2
namespace L2
open PySem PySem.Spec PyProof.Rows PySem.W
abbrev Mx (K:Type):=Sum K (List K)
def isL {K:Type}:Mx K->Bool
 | .inl _=>true
 | .inr _=>false
section
variable {prog:Program}{w:World}{K:Type} [DecidableEq K] {knd:KeyKind prog w K}
inductive ItemsM (knd:KeyKind prog w K) (h:Heap):List (Mx K)->List Value->Prop
 |nil:ItemsM knd h [] []
 |val {k:K}{v:Value}{ks:List (Mx K)}{vs:List Value}:knd.is k v=true->ItemsM knd h ks vs->ItemsM knd h (.inl k::ks) (v::vs)
 |tup {k:List K}{a:Addr}{ks:List (Mx K)}{vs:List Value}:IsTupleKey knd h k a->ItemsM knd h ks vs->ItemsM knd h (.inr k::ks) (.ref a::vs)
def dn_ (knd:KeyKind prog w K) (sh:List Bool) (h:Heap) (ks:List (Mx K)) (a:Addr):Prop:=ks.map isL=sh/\∃o items n,h.get? a=some o/\o.cls= .type "tuple"/\o.data= .seq items n/\ItemsM knd h ks items.toList
theorem ItemsM.inj {h:Heap}{x y:List (Mx K)}{vs:List Value} (hx:ItemsM knd h x vs) (hy:ItemsM knd h y vs) (e:x.map isL=y.map isL):x=y:=by
 induction hx generalizing y with
 |nil=>cases hy;rfl
 |val h1 _ ih=>
  cases hy with
  |val h2 t2=>rw [knd.inj _ _ _ h1 h2,ih t2 (by simpa [isL] using e)]
  |tup h2 t2=>simp [isL] at e
 |tup h1 _ ih=>
  cases hy with
  |val h2 t2=>simp [isL] at e
  |tup h2 t2=>rw [h1.inj h2,ih t2 (by simpa [isL] using e)]
theorem ItemsM.keeps {h h':Heap}{x:List (Mx K)}{vs:List Value}{d:Addr}{o:Obj}{es ep} (hx:ItemsM knd h x vs) (ho:h.get? d=some o) (hd:o.data= .dict es ep) (hs:Heap.SameBut d h h'):ItemsM knd h' x vs:=by
 induction hx with
 |nil=>exact .nil
 |val h1 _ ih=>exact .val h1 ih
 |tup h1 _ ih=>exact .tup (h1.keeps ho hd hs) ih
variable {sh:List Bool}
theorem dn_.typeIs {s:Shared}{ks:List (Mx K)}{a:Addr} (x:dn_ knd sh s.heap ks a):s.TypeIs (.ref a) "tuple":=let ⟨_,o,_,_,ho,hc,_⟩:=x;⟨o,ho,hc⟩
theorem dn_.inj {h:Heap}{a:Addr}{x y:List (Mx K)} (hx:dn_ knd sh h x a) (hy:dn_ knd sh h y a):x=y:=by
 obtain⟨e1,o,items,n,ho,_,hd,hi⟩:=hx;obtain⟨e2,o',items',n',ho',_,hd',hi'⟩:=hy;obtain rfl:o=o':=Ae (ho.symm.trans ho');rw [hd] at hd';injection hd' with h1 _;subst h1;exact hi.inj hi' (e1.trans e2.symm)
theorem dn_.keeps {h h':Heap}{ks:List (Mx K)}{a d:Addr}{o:Obj}{es ep} (x:dn_ knd sh h ks a) (ho:h.get? d=some o) (hd:o.data= .dict es ep) (hs:Heap.SameBut d h h'):dn_ knd sh h' ks a:=by
 obtain⟨e,o',items,n,ho',hc,hd',hi⟩:=x;have hne:a≠d:=by
  rintro rfl;obtain rfl:o'=o:=Ae (ho'.symm.trans ho);rw [hd] at hd';exact nomatch hd'
 exact⟨e,o',items,n,(hs.2 a hne).trans ho',hc,hd',hi.keeps ho hd hs⟩
def nB_ (knd:KeyKind prog w K):Mx K->Int
 | .inl k=>knd.hash k
 | .inr ks=>tupleKeyHash knd ks
def rd_ {K:Type}:Mx K->Nat
 | .inl _=>1
 | .inr ks=>ks.length+1
def i5_ (knd:KeyKind prog w K) (ks:List (Mx K)):Int:=reduceHash (Builtin.Tuple.tupleHashOf (ks.map (nB_ knd)))
def gm_ (ks:List (Mx K)):Nat:=(ks.map rd_).sum+1
variable {A:Around}{E:Value->Shared->Prop}{s:Shared}
theorem kQ_ {ks:List (Mx K)}{a:Addr}{Q:Int->Shared->Prop} (hu:A.units+1<cLine) (hk:dn_ knd sh s.heap ks a) (h:Q (i5_ knd ks) {s with toks:=s.toks+gm_ ks}):
  wpAny (model prog w) A (pyHash (.ref a)) Q E s:=by
 have hT:=hk.typeIs;obtain⟨_,o,items,n,ho,_,hd,hi⟩:=hk;unfold pyHash;first|unfold pyHashByItsType|skip
 first|refine A0 (wpAny_cRoomFor_or (.inr (by lia)) ?_)|skip
 refine A0 (CI hT D3.lookup ?_);show wpAny _ _ (if(some (Value.builtin "tuple.__hash__")==some Value.none)=true then _ else _) Q E s;rw [A5 (by rw [beq_builtin_none];exact AT)];refine A0 (CI hT D3.lookup ?_);show wpAny _ _ (callSpecialIfBoundUnlessNone? (.ref a) "__hash__" _>>=_) Q E s;refine A0 (wpAny_callSpecialIfBoundUnlessNone?_slot hT D3 (Ab D3 hT F.entry_tuple_hash ?_ (F.args_tuple_hash_1 _)));show wpAny _ _ (Builtin.Tuple.tupleItemsOf (.ref a)>>=_) _ _ s;refine A0 (wpAny_tupleItemsOf ho hd ?_);refine A0 ?_;rw [<-Ce];refine Bx _
  (fun cl_ (b:Array Int) s'=>∃done left,ks=done++left/\ItemsM knd s.heap left cl_/\b.toList=done.map (nB_ knd)/\s'={s with toks:=s.toks+(done.map rd_).sum})
  _ ?_ ?_ _ _ ⟨[],ks,rfl,hi,rfl,rfl⟩
 .rintro x cl_ b s' ⟨done,left,rfl,hl,hb,rfl⟩;cases hl with
  | @val k v1 ks' _ h1 hl'=>
   refine A0 (knd.pyHash h1 ?_);first
    |exact A2 ⟨done++[.inl k],ks',by simp,hl',by simp [hb,nB_],by simp [D0,rd_]⟩
    |exact A0 (A2 (A2 ⟨done++[.inl k],ks',by simp,hl',by simp [hb,nB_],by simp [D0,rd_]⟩))
  | @tup k a1 ks' _ h1 hl'=>
   refine A0 (wpAny_pyHash_tuple (knd:=knd) (ks:=k) (by first|exact hu|(rw [aI_];lia)|(simp;lia)) h1 ?_);first
    |exact A2 ⟨done++[.inr k],ks',by simp,hl',by simp [hb,nB_],by simp [D0,rd_]⟩
    |exact A0 (A2 (A2 ⟨done++[.inr k],ks',by simp,hl',by simp [hb,nB_],by simp [D0,rd_]⟩))
 .rintro b s' ⟨done,left,rfl,hl,hb,rfl⟩;cases hl;rw [Av] at h;show wpAny _ _ (retInt (Builtin.Tuple.tupleHashOf b.toList)) _ _ _;rw [hb];refine wpAny_ret_mkInt ?_;show wpAny _ _ (if(decide (-(2:Int)^63<=Builtin.Tuple.tupleHashOf (done.map (nB_ knd)))&&decide (Builtin.Tuple.tupleHashOf (done.map (nB_ knd))<2^63))=true then _ else _) Q E _;unfold i5_ reduceHash gm_ at h;by_cases hr:(decide (-(2:Int)^63<=Builtin.Tuple.tupleHashOf (done.map (nB_ knd)))&&decide (Builtin.Tuple.tupleHashOf (done.map (nB_ knd))<2^63))=true
  .rw [A7 hr];rw [A7 hr] at h;exact A2 (by simpa [D0] using h)
  .rw [A5 hr];rw [A5 hr] at h;exact A0 (CB (A2 (by simpa [D0] using h)))
theorem i2_ {x y:List (Mx K)}{a b:Addr}{P:Fin->Shared->Prop} (hu:A.units<cLine) (hx:dn_ knd sh s.heap x a) (hy:dn_ knd sh s.heap y b) (h:P (.done (.ret (.bool (decide (x=y))))) s):
  wpAny (model prog w) A (Builtin.«tuple.__eq__» ⟨[.ref a, .ref b],[]⟩) P E s:=by
 have hTb:=hy.typeIs;obtain⟨sx,oa,xs,na,hoa,_,hda,hia⟩:=hx;obtain⟨sy,ob,ys,nb,hob,_,hdb,hib⟩:=hy;show wpAny _ _ (isInstance (.ref b) (.type "tuple")>>=_) _ _ s;refine A0 (Bw hTb isSubtype_tuple_tuple ?_);simp only [BE,AH,Am];refine A0 (wpAny_tupleItemsOf hoa hda ?_);refine A0 (wpAny_tupleItemsOf hob hdb ?_);refine A0 ?_;refine Bx _
  (fun cl_ r s'=>r.1=none/\s'=s/\∃x' y' xs' ys',cl_=List.zip xs' ys'/\ItemsM knd s.heap x' xs'/\ItemsM knd s.heap y' ys'/\decide (x'=y')=decide (x=y)/\x'.map isL=y'.map isL/\(xs'.length==ys'.length)=(xs.size==ys.size))
  _ ?_ ?_ _ _ ⟨rfl,rfl,x,y,xs.toList,ys.toList,rfl,hia,hib,rfl,sx.trans sy.symm,by simp⟩
 .rintro⟨u,v⟩ cl_ r s' ⟨hr,rfl,x',y',xs',ys',hz,hx',hy',hdec,hsh,hlen⟩;cases hx' with
  |nil=>simp at hz
  | @val k1 v1 x'' xs'' h1 hx''=>
   cases hy' with
   |nil=>simp at hz
   |tup _ _=>simp [isL] at hsh
   | @val k2 v2 y'' ys'' h2 hy''=>
    simp only [List.zip_cons_cons,D4,BM] at hz;obtain⟨⟨rfl,rfl⟩,rfl⟩:=hz;refine A0 (knd.eqBool h1 h2 ?_);by_cases hk:k1=k2
    .subst hk;rw [BF rfl];simp only [BE,AH,Am];refine A2 ⟨rfl,rfl,x'',y'',xs'',ys'',rfl,hx'',hy'', ?_,by simpa using hsh,by simpa using hlen⟩;rw [<-hdec];by_cases hxy:x''=y''
     .simp [hxy]
     .simp [hxy]
    .rw [Ak hk];simp only [Cq,C2];have hf:decide (x=y)=false:=by rw [<-hdec];simp [hk]
     rw [hf] at h;exact A0 (A2 (A2 (A2 h)))
  | @tup k1 a1 x'' xs'' h1 hx''=>
   cases hy' with
   |nil=>simp at hz
   |val _ _=>simp [isL] at hsh
   | @tup k2 a2 y'' ys'' h2 hy''=>
    simp only [List.zip_cons_cons,D4,BM] at hz;obtain⟨⟨rfl,rfl⟩,rfl⟩:=hz;refine A0 (wpAny_eqBool_tuple (knd:=knd) (x:=k1) (y:=k2) (by first|exact hu|(rw [aI_];lia)|(simp;lia)) h1 h2 ?_);by_cases hk:k1=k2
    .subst hk;rw [BF rfl];simp only [BE,AH,Am];refine A2 ⟨rfl,rfl,x'',y'',xs'',ys'',rfl,hx'',hy'', ?_,by simpa using hsh,by simpa using hlen⟩;rw [<-hdec];by_cases hxy:x''=y''
     .simp [hxy]
     .simp [hxy]
    .rw [Ak hk];simp only [Cq,C2];have hf:decide (x=y)=false:=by rw [<-hdec];simp [hk]
     rw [hf] at h;exact A0 (A2 (A2 (A2 h)))
 .rintro⟨r1,r2⟩ s' ⟨hr,rfl,x',y',xs',ys',hz,hx',hy',hdec,hsh,hlen⟩;simp only at hr;subst hr;refine A2 ?_;have hfin:(xs.size==ys.size)=decide (x=y):=by
   rw [<-hdec,<-hlen];cases hx' with
   |nil=>
    cases hy' with
    |nil=>simp
    |val _ _=>simp
    |tup _ _=>simp
   |val _ _=>
    cases hy' with
    |nil=>simp
    |val _ _=>simp at hz
    |tup _ _=>simp at hz
   |tup _ _=>
    cases hy' with
    |nil=>simp
    |val _ _=>simp at hz
    |tup _ _=>simp at hz
  show P (.done (.ret (.bool (xs.size==ys.size)))) s';rw [hfin];exact h
theorem k2_ {x y:List (Mx K)}{a b:Addr}{Q:Bool->Shared->Prop} (hu:A.units+1<cLine) (hx:dn_ knd sh s.heap x a) (hy:dn_ knd sh s.heap y b) (h:Q (decide (x=y)) s):
  wpAny (model prog w) A (eqBool (.ref a) (.ref b)) Q E s:=by
 unfold eqBool;try with_reducible refine Ar ?_
 show wpAny _ _ (if(Value.ref a==Value.ref b)=true then _ else _) Q E s;by_cases hab:(Value.ref a==Value.ref b)=true
 .rw [A7 hab];have e:a=b:=by have:=eq_of_beq hab;injection this
  subst e;obtain rfl:=hx.inj hy;exact A0 (CB (A2 (by simpa using h)))
 .rw [A5 hab];exact A0 (wpAny_richCompare_same_room (op:= .Eq) hx.typeIs hy.typeIs F.slot_tuple_eq
   (Ab F.slot_tuple_eq hx.typeIs F.entry_tuple_eq (i2_ (by first|lia|(rw [aI_];lia)|(simp;lia)) hx hy ⟨_,rfl,(fun e=>nomatch e),Bh h⟩) (F.args_tuple_eq_2 _ _)) (by lia))
theorem l2_ {ks:List (Mx K)}{a:Addr}{Q:Bool->Shared->Prop} (hk:dn_ knd sh s.heap ks a) (h:Q true s):wpAny (model prog w) A (eqIsQuiet 8 (.ref a)) Q E s:=by
 have hT:=hk.typeIs;obtain⟨_,o,items,n,ho,_,hd,hi⟩:=hk;unfold eqIsQuiet;refine A0 (CI hT F.slot_tuple_eq.lookup ?_);show wpAny _ _ (isInstance (.ref a) (.type "tuple")>>=_) _ _ s;refine A0 (Bw hT isSubtype_tuple_tuple ?_);simp only [BE,AH,Am];refine A0 (Bi ho hd ?_);refine A0 ?_;show wpAny _ _ (forIn items _ _) _ _ s;rw [<-Ce];refine Bx _ (fun cl_ r s'=>r.1=none/\s'=s/\∃x,ItemsM knd s.heap x cl_) _ ?_ ?_ _ _ ⟨rfl,rfl,ks,hi⟩
 .rintro v cl_ r s' ⟨hr,rfl,x,hall⟩;cases hall with
  |val h1 ht=>
   rw [eqIsQuiet_byValue _ (knd.byValue _ _ h1)];refine A0 (A2 ?_);simp only [BE,AH,Am];exact A2 ⟨rfl,rfl,_,ht⟩
  |tup h1 ht=>
   refine A0 (iK_ h1 ?_);simp only [BE,AH,Am];exact A2 ⟨rfl,rfl,_,ht⟩
 .rintro⟨r1,r2⟩ s' ⟨hr,rfl,_⟩;simp only at hr;subst hr;exact A2 h
end
def fG_ {prog:Program}{w:World}{K:Type} [DecidableEq K] (knd:KeyKind prog w K) (sh:List Bool):HeapKind prog w (List (Mx K)) where
 is:=dn_ knd sh
 hash:=i5_ knd
 draws:=gm_
 room:=fun A=>A.units+1<cLine
 inj:=fun hx hy=>hx.inj hy
 keeps:=fun x ho hd hs=>x.keeps ho hd hs
 pyHash:=fun hu hk h=>kQ_ hu hk h
 eqBool:=fun hu hx hy h=>k2_ hu hx hy h
 quiet:=fun hk h=>l2_ hk h
end L2
namespace L2
open PySem PySem.Spec PyProof.Rows PySem.W
def mD:Mx Int->D
 | .inl i=> .i i
 | .inr t=>tI t
def qsh:List Bool:=[true,true,false,false]
def mK (ks:List (Mx Int)):D:= .t (ks.map mD)
def IsK (H:Hp) (ks:List (Mx Int)) (v:V):Prop:=ks.map isL=qsh/\Is H (mK ks) v
section
variable {P:Program}{w:World}{H:Hp}{h:Heap}{a:Addr}
def mE (P:Program) (w:World) (xs:List (List (Mx Int)×Addr×Value)) (a:Addr) (h:Heap):Prop:=
 ∃o es ep,h.get? a=some o/\o.ExactDict/\o.data= .dict es ep/\es.toList=xs.map (entryOfKey (fG_ (intKind P w) qsh))/\(xs.map (·.1)).Nodup
abbrev MT (H:Hp):List (List (Mx Int)×V)->List (List (Mx Int)×Addr×Value)->Prop:=Paired fun p q=>p.1=q.1/\IsK H p.1 (.ref q.2.1)/\aZ_ p.2 q.2.2
def DM (P:Program) (w:World) (H:Hp) (a:Addr) (kvs:List (List (Mx Int)×V)):Prop:=kvs.length<=sizeLine/\(a==sysModules)=false/\∃xs,MT H kvs xs/\H a=some (.ext (mE P w xs a))
theorem e2_ (ok:HOk P w H h):∀{ks:List (Mx Int)}{vs:List V}{us:List Value},Iss H (ks.map mD) vs->aV_ vs us->ItemsM (intKind P w) h ks us
 |[],_,_,i,r=>by rw [bf_ i] at r;cases r;exact .nil
 | .inl k::ks,_,_,i,r=>by
  obtain⟨u,us,rfl,q,i2⟩:=aw_ i;obtain rfl:=do_ q;cases r with
  |cons h t=>
   obtain⟨t',rfl⟩:=h;exact .val (show Value.isInt k (.int k t')=true by simp [Value.isInt]) (e2_ ok i2 t)
 | .inr k::ks,_,_,i,r=>by
  obtain⟨u,us,rfl,q,i2⟩:=aw_ i;obtain⟨b,rfl,hb⟩:=bS_ q;cases r with
  |cons h t=>
   cases h;exact .tup (sp_ ok hb) (e2_ ok i2 t)
theorem gl_ {ks:List (Mx Int)} (ok:HOk P w H h) (e:IsK H ks (.ref a)):(fG_ (intKind P w) qsh).is h ks a:=by
 obtain⟨sh,e⟩:=e;obtain⟨b,vs,eb,hb,hi⟩:=hs_ e;cases eb;obtain⟨_,its,r,o,h1,h2,n,h3⟩:=(show aC_ P w H h a (.tup vs) from ok a _ hb);exact⟨sh,o,its.toArray,n,h1,h2,h3,by simpa using e2_ ok hi r⟩
theorem oH_ {kvs:List (List (Mx Int)×V)} (ok:HOk P w H h) (e:DM P w H a kvs):kvs.length<=sizeLine/\(a==sysModules)=false/\∃xs,MT H kvs xs/\H a=some (.ext (mE P w xs a))/\h.DictOfH (fG_ (intKind P w) qsh) a xs:=by
 obtain⟨z,y,xs,r,e⟩:=e;obtain⟨⟨o,es,ep,h1,h2,h3,h4,h5⟩,_,_⟩:=(show aC_ P w H h a (.ext (mE P w xs a)) from ok a _ e);refine⟨z,y,xs,r,e,o,es,ep,h1,h2,h3,h4,fun x hx=> ?_,h5⟩;have all:∀{l:List (List (Mx Int)×V)}{m:List (List (Mx Int)×Addr×Value)},MT H l m->∀x∈m,(fG_ (intKind P w) qsh).is h x.1 x.2.1:=by
  intro l m q;induction q with
  |nil=>intro x hx;exact nomatch hx
  | @cons p q ps qs hq t ih=>
   intro x hx;rcases AJ.mp hx with e|hx
   .subst e;exact gl_ ok (by rw [<-hq.1];exact hq.2.1)
   .exact ih x hx
 exact all r x hx
theorem sI_ {xs:List (List (Mx Int)×Addr×Value)}{H':Hp} (d:∃o es ep,h.get? a=some o/\o.ExactDict/\o.data= .dict es ep/\es.toList=xs.map (entryOfKey (fG_ (intKind P w) qsh))/\(xs.map (·.1)).Nodup):aC_ P w H' h a (.ext (mE P w xs a)):=by
 refine⟨d,let ⟨o,_,_,h1,_⟩:=d;⟨o,h1⟩,fun h1 h2 f k=> ?_⟩;obtain⟨o,es,ep,e1,r⟩:=f;exact⟨o,es,ep,k o e1,r⟩
theorem MT.val {kvs:List (List (Mx Int)×V)}{xs:List (List (Mx Int)×Addr×Value)} (r:MT H kvs xs) (k:List (Mx Int)):jo_ (dq_ kvs k) ((atKey xs k).map (·.2)):=by
 induction r with
 |nil=>exact True.intro
 | @cons p q ps qs h t ih=>
  obtain⟨h1,_,h2⟩:=h;by_cases e:p.1=k
  .have e':q.1=k:=h1.symm.trans e;have b:atKey (q::qs) k=some q.2:=by simp [atKey,BO,e']
   rw [bD_ e,b];exact h2
  .have e':¬q.1=k:=fun z=>e (h1.trans z);have b:atKey (q::qs) k=atKey qs k:=by simp [atKey,BO,e']
   rw [bE_ e,b];exact ih
theorem MT.repl {kvs:List (List (Mx Int)×V)}{xs:List (List (Mx Int)×Addr×Value)} (r:MT H kvs xs) (k:List (Mx Int)) {y:V}{u:Value} (ry:aZ_ y u):
  MT H (kvs.map fun kv=>if kv.1=k then(kv.1,y) else kv) (xs.map (putAt k u)):=by
 induction r with
 |nil=>exact .nil
 | @cons p q ps qs h t ih=>
  rw [AK,AK];refine .cons ?_ ih;obtain⟨h1,h2,h3⟩:=h;unfold putAt;by_cases e:p.1=k
  .rw [A7 e,A7 (h1.symm.trans e)];exact⟨h1,h2,ry⟩
  .rw [A5 e,A5 (fun z=>e (h1.trans z))];exact⟨h1,h2,h3⟩
theorem MT.put {kvs:List (List (Mx Int)×V)}{xs:List (List (Mx Int)×Addr×Value)} (r:MT H kvs xs) (k:List (Mx Int)) {b:Addr}{y:V}{u:Value} (hb:IsK H k (.ref b)) (ry:aZ_ y u):
  MT H (dy_ kvs k y) (storedH xs k b u):=by
 have e:(kvs.any fun kv=>decide (kv.1=k))=(atKey xs k).isSome:=by
  rw [ep_,(r.val k).isSome_eq,Option.isSome_map]
 unfold dy_ storedH;rw [e];by_cases q:(atKey xs k).isSome=true
 .rw [A7 q,A7 q];exact r.repl k ry
 .rw [A5 q,A5 q];exact Paired.snoc r ⟨rfl,hb,ry⟩
theorem ol_ {H':Hp} (ht:∀b ys,H b=some (.tup ys)->H' b=some (.tup ys)) {ks:List (Mx Int)}{v:V} (h:IsK H ks v):IsK H' ks v:=by
 obtain⟨sh,h⟩:=h;obtain⟨b,vs,rfl,hb,hi⟩:=hs_ h;have go:∀{xs:List (Mx Int)}{vs:List V},Iss H (xs.map mD) vs->Iss H' (xs.map mD) vs:=by
  intro xs;induction xs with
  |nil=>intro vs h;rw [bf_ h];exact am_
  |cons x xs ih=>
   intro vs h;obtain⟨u,us,rfl,q,r⟩:=aw_ h;cases x with
   |inl k=>rw [show u= .int k from do_ q];exact ai_ e4_ (ih r)
   |inr k=>
    obtain⟨c,rfl,hc⟩:=bS_ q;exact ai_ (e3_ (ht _ _ hc)) (ih r)
 exact⟨sh,gX_ (ht _ _ hb) (go hi)⟩
theorem MT.keeps {H':Hp}{kvs:List (List (Mx Int)×V)}{xs:List (List (Mx Int)×Addr×Value)} (r:MT H kvs xs) (ht:∀b ys,H b=some (.tup ys)->H' b=some (.tup ys)):MT H' kvs xs:=
 Paired.mapP r fun _ _ z=>⟨z.1,ol_ ht z.2.1,z.2.2⟩
theorem DM.mono {H':Hp}{kvs:List (List (Mx Int)×V)} (s:an_ H H') (d:DM P w H a kvs):DM P w H' a kvs:=by
 obtain⟨z,y,xs,r,e⟩:=d;exact⟨z,y,xs,r.keeps fun b ys=>s b _,s _ _ e⟩
theorem DM.mut {kvs:List (List (Mx Int)×V)} (d:DM P w H a kvs):Mut (H a):=by
 obtain⟨_,_,xs,_,e⟩:=d;rw [e];exact True.intro
theorem DM.ntup {kvs:List (List (Mx Int)×V)} (d:DM P w H a kvs) {b:Addr}{ys:List V} (e:H b=some (.tup ys)):b≠a:=by
 obtain⟨_,_,xs,_,e2⟩:=d;rintro rfl;rw [e2] at e;cases e
end
section
variable {X:Cx}{pins:List (Addr×Obj)}{σ:St}{H:Hp}{s:Shared}{a b:Addr}{v:V}{r:Value}{A:Around}{E:Value->Shared->Prop}{kvs:List (List (Mx Int)×V)}{ks:List (Mx Int)}
theorem f4_ {prog:Program}{w:World}{A:Around} (hu:A.units+2<cLine):(fG_ (intKind prog w) qsh).room A.in1:=by
 show A.in1.units+1<cLine;rw [aI_];lia
theorem ms_ {Q:Value->Shared->Prop} (hu:A.units+2<cLine) (I:Inv X pins σ H s) (d:DM X.prog X.w H a kvs) (k:IsK H ks (.ref b)) (l:dq_ kvs ks=some v) (h:∀w' s',Inv X pins σ H s'->aZ_ v w'->Q w' s'):
  wpAny (model X.prog X.w) A (getItem (.ref a) (.ref b)) Q E s:=by
 obtain⟨z,hd,xs,rel,_,dd⟩:=oH_ I.hok d;obtain⟨w',hw,rw'⟩:=jo_.some_of (v:=v) (o:=(atKey xs ks).map (·.2)) (by rw [<-l];exact rel.val ks);obtain⟨p,hp,hp2⟩:=A4.mp hw;refine wpAny_getItem_heap (f4_ hu) (gl_ I.hok k) dd hp ?_;rw [hp2];exact h w' _ (I.tok _) rw'
theorem qt_ {Q:Value->Shared->Prop} (hu:A.units+2<cLine) (I:Inv X pins σ H s) (d:DM X.prog X.w H a kvs) (k:IsK H ks (.ref b)) (h:∀s',Inv X pins σ H s'->Q (.bool (!(dq_ kvs ks).isSome)) s'):
  wpAny (model X.prog X.w) A (compareOp .NotIn (.ref b) (.ref a)) Q E s:=by
 obtain⟨z,hd,xs,rel,_,dd⟩:=oH_ I.hok d;refine wpAny_notIn_heap (f4_ hu) (gl_ I.hok k) hd dd ?_;have q:=(rel.val ks).isSome_eq;rw [Option.isSome_map] at q;rw [<-q];exact h _ (I.tok _)
theorem mr_ {Q:Unit->Shared->Prop} (hu:A.units+2<cLine) (I:Inv X pins σ H s) (d:DM X.prog X.w H a kvs) (k:IsK H ks (.ref b)) (hl:kvs.length<sizeLine) (rv:aZ_ v r)
  (h:∀H' s',DM X.prog X.w H' a (dy_ kvs ks v)->(∀b,b≠a->H' b=H b)->Inv X pins σ H' s'->Q () s'):wpAny (model X.prog X.w) A (setItem (.ref a) (.ref b) r) Q E s:=by
 obtain⟨z,hd,xs,rel,e,dd⟩:=oH_ I.hok d;have hz:xs.length<=sizeLine:=by rw [<-Be rel];exact z
 have hl':(dy_ kvs ks v).length<=sizeLine:=by have:=dk_ kvs ks v;lia
 refine wpAny_setItem_heap (hsz:=hz) (f4_ hu) (gl_ I.hok k) dd fun h' dd' hs=> ?_;obtain⟨q,es,ep,hq,h2,h3,h4,_,h5⟩:=dd';refine h (upd H a (.ext (mE X.prog X.w (storedH xs ks b r) a))) _ ⟨hl',hd,_,(rel.put ks k rv).keeps fun c ys ec=> ?_,ag_⟩ (fun c hc=>ak_ hc) (eb_ I d.mut hs ⟨q,hq⟩ (sI_ ⟨q,es,ep,hq,h2,h3,h4,h5⟩));rw [ak_ (d.ntup ec)];exact ec
theorem uq_ (I:Inv X pins σ H s) (d:DM X.prog X.w H a kvs):s.TypeIs (.ref a) "dict"/\(∀b,Value.ref a= .ref b->∃ob,s.heap.get? b=some ob/\ob.dict=none)/\(a==sysModules)=false:=by
 obtain⟨_,hd,xs,_,_,dd⟩:=oH_ I.hok d;refine⟨dd.typeIs,fun b q=> ?_,hd⟩;cases q;obtain⟨ob,_,_,h1,h2,_⟩:=dd;exact⟨ob,h1,h2.2.1⟩
end
def tw_ (P:Program) (w:World) (td ty:TE):TE:=fun σ H Q=>td σ H fun x H1=>ty σ H1 fun y H2=>∃a kvs ks v,x= .ref a/\DM P w H2 a kvs/\IsK H2 ks y/\dq_ kvs ks=some v/\Q v H2
def pQ_ (P:Program) (w:World) (ty td:TE):TE:=fun σ H Q=>ty σ H fun y H1=>td σ H1 fun x H2=>∃a kvs ks,x= .ref a/\DM P w H2 a kvs/\IsK H2 ks y/\Q (.bl (!(dq_ kvs ks).isSome)) H2
def t4_ (P:Program) (w:World) (td ty tv:TE):TS:=fun D σ H=>tv σ H fun v H1=>td σ H1 fun x H2=>ty σ H2 fun y H3=>∃a kvs ks,x= .ref a/\DM P w H3 a kvs/\IsK H3 ks y/\kvs.length<sizeLine/\∀H4,DM P w H4 a (dy_ kvs ks v)->(∀b,b≠a->H4 b=H3 b)->D.nx σ H4
def tv_ (P:Program) (w:World):TE:=fun _ H Q=>∀p H',H p=none->DM P w H' p []->(∀b,b≠p->H' b=H b)->Q (.ref p) H'
section
variable {X:Cx}{o i e f value ek ev:Expr}{pos pos' apos cpos:Pos}{td ty tv tx tk:TE}
theorem ue_ {H:Hp}{ks:List (Mx Int)}{y:V}{u:Value} (h:IsK H ks y) (r:aZ_ y u):∃b,y= .ref b/\u= .ref b:=by
 obtain⟨b,_,rfl,_⟩:=hs_ h.2;exact⟨b,rfl,r⟩
theorem qe_ (hu:X.A.units+2<cLine) (ho:PE X o td) (hi:PE X i ty) (hs:ti_ i):PE X (.Subscript o i pos) (tw_ X.prog X.w td ty):=by
 intro pins s σ H Q I h;refine iy_ PySem.F.slot_dict_getitem.lookup hs (thn (ho pins s σ H _ I h) fun u s1 ⟨x,H1,I1,rx,q1⟩=>thn (hi pins s1 σ H1 _ I1 q1) fun iv s2 ⟨y,H2,I2,ry,a,kvs,ks,v,ex,d,k,l,q2⟩=> ?_);subst ex;obtain rfl:u=Value.ref a:=rx;obtain⟨b,rfl,rfl⟩:=ue_ k ry;exact⟨(uq_ I2 d).1,ms_ hu I2 d k l fun w' s3 I3 rw'=>⟨v,H2,I3,rw',q2⟩⟩
theorem mf_ (hu:X.A.units+2<cLine) (hi:PE X i ty) (ho:PE X o td):PC X .NotIn i o (pQ_ X.prog X.w ty td):=by
 intro pins s σ H Q I h;refine thn (hi pins s σ H _ I h) fun iv s1 ⟨y,H1,I1,ry,q1⟩=>thn (ho pins s1 σ H1 _ I1 q1) fun u s2 ⟨x,H2,I2,rx,a,kvs,ks,ex,d,k,q2⟩=> ?_;subst ex;obtain rfl:u=Value.ref a:=rx;obtain⟨b,rfl,rfl⟩:=ue_ k ry;exact qt_ hu I2 d k fun s3 I3=>⟨.bl _,H2,I3,rfl,q2⟩
theorem p6_ (hu:X.A.units+2<cLine) (ho:PE X o td) (hi:PE X i ty) (hv:PE X value tv) (hs:swapsWith value (some (.Subscript o i pos')) pos.line X.env=pure false):
  PS X (.Assign [.Subscript o i pos'] value pos) (t4_ X.prog X.w td ty tv):=by
 intro pins s σ H D I h;refine wpAny_Assign_Subscript (thn (hv pins s σ H _ I h) fun r s1 ⟨v,H1,I1,rv,q1⟩=>thn (ho pins s1 σ H1 _ I1 q1) fun u s2 ⟨x,H2,I2,rx,q2⟩=>thn (hi pins s2 σ H2 _ I2 q2) fun iv s3 ⟨y,H3,I3,ry,a,kvs,ks,ex,d,k,hl,q3⟩=> ?_) hs;subst ex;obtain rfl:u=Value.ref a:=rx;obtain⟨b,rfl,rfl⟩:=ue_ k ry;exact mr_ hu I3 d k hl rv fun H4 s4 d4 k4 I4=>⟨σ,H4,I4,q3 H4 d4 k4⟩
theorem oI_ {P:Program}{w:World}{H:Hp}{h:Heap}{p:Addr} (hp:p=h.objs.size) (hb:sysModules<h.objs.size):DM P w (upd H p (.ext (mE P w [] p))) p []:=by
 subst hp;exact⟨AM _,CU.mpr (C9 (AL hb)),[], .nil,ag_⟩
theorem jh_ {P:Program}{w:World}{H:Hp} (h:Heap):aC_ P w H (h.push {cls:= .type "dict",data:= .dict #[]}) h.objs.size (.ext (mE P w [] h.objs.size)):=
 sI_ ⟨_, #[],0,AF _ rfl,⟨rfl,rfl,rfl⟩,rfl,rfl,List.nodup_nil⟩
theorem qd_:PE X (.Dict [] [] pos) (tv_ X.prog X.w):=fun pins s σ H Q I h=>
 wpAny_Dict_empty ⟨.ref s.heap.objs.size,_,I.laid (a:=s.heap.objs.size) (o:= .ext (mE X.prog X.w [] s.heap.objs.size)) (t':=s.toks) (fun _ _ q=>A6 _ q) (AA _) (jh_ s.heap),rfl,h _ _ (I.hok.fresh (AA _)) (oI_ rfl I.big) (fun b hb=>ak_ hb)⟩
end
end L2
namespace L2
open PySem PySem.Spec PyProof.Rows
section
variable {prog:Program}{w:World}{A:Around}{E:Value->Shared->Prop}{s:Shared}
theorem d4_ {it t:Addr}{i:Nat}{vs:Array Value}{x:Value}{Q:Value->Shared->Prop} (hit:s.heap.IsTupleIter it t i) (ht:s.heap.IsTuple t vs) (hx:vs[i]? =some x) (hQ:∀h',h'.IsTupleIter it t (i+1)->Heap.SameBut it s.heap h'->Q x {s with heap:=h'}):
  wpAny (model prog w) A (Builtin.SmallTypes.nextOf (.ref it)) Q E s:=by
 obtain⟨o,ho,hc,hd⟩:=id hit;obtain⟨q,hq,_,nq,hdq⟩:=ht;unfold Builtin.SmallTypes.nextOf;refine A0 (Ax (name:=Str.ofString "__next__") hit.typeIs CV (Ab CV hit.typeIs F.entry_tuple_iterator_next ?_ (F.args_tuple_iterator_next_1 _)));show wpAny _ _ (field (.ref it) 0>>=_) _ _ s;refine A0 (BY ho hd (x:= .ref t) rfl ?_);show wpAny _ _ (if(Value.ref t==Value.none)=true then _ else _) _ _ s;rw [A5 (show¬((Value.ref t==Value.none)=true) from AT)];show wpAny _ _ (field (.ref it) 1>>=_) _ _ s;refine A0 (BY ho hd (x:= .int i 0) rfl ?_);show wpAny _ _ (seqItems? (.ref t)>>=_) _ _ s;refine A0 (Bi hq hdq ?_);simp only [Ap,hx];refine A0 (C1 ho hd (by simp) (A2 ⟨x,rfl,A2 (hQ _ ⟨_,C5 _ ho (D6 (Bm hd _)),(Obj.cls_mapFields ..).trans hc,by rw [Bm hd];simp [rawInt]⟩ (B9 ..))⟩))
theorem hv_ {it t:Addr}{i:Nat}{vs:Array Value}{Q:Value->Shared->Prop} (hh:A.handled=none) (hit:s.heap.IsTupleIter it t i) (ht:s.heap.IsTuple t vs) (hx:vs[i]? =none)
  (hE:∀h' e,Heap.ExtBut it s.heap h'->(∃o,h'.get? e=some o/\o.cls= .type "StopIteration")->E (.ref e) {s with heap:=h'}):wpAny (model prog w) A (Builtin.SmallTypes.nextOf (.ref it)) Q E s:=by
 obtain⟨o,ho,hc,hd⟩:=id hit;obtain⟨q,hq,_,nq,hdq⟩:=ht;unfold Builtin.SmallTypes.nextOf;refine A0 (Ax (name:=Str.ofString "__next__") hit.typeIs CV (Ab CV hit.typeIs F.entry_tuple_iterator_next ?_ (F.args_tuple_iterator_next_1 _)));show wpAny _ _ (field (.ref it) 0>>=_) _ _ s;refine A0 (BY ho hd (x:= .ref t) rfl ?_);show wpAny _ _ (if(Value.ref t==Value.none)=true then _ else _) _ _ s;rw [A5 (show¬((Value.ref t==Value.none)=true) from AT)];show wpAny _ _ (field (.ref it) 1>>=_) _ _ s;refine A0 (BY ho hd (x:= .int i 0) rfl ?_);show wpAny _ _ (seqItems? (.ref t)>>=_) _ _ s;refine A0 (Bi hq hdq ?_);simp only [Ap,hx];refine A0 (CB (A0 (C1 ho hd (by simp) ?_)));show wpAny _ _ (newExc (.type "StopIteration") []>>=_) _ _ _;refine A0 ?_;simp only [newExc,newTuple];refine A0 (Aq ?_ (by size_fits));refine A0 (m:=firstArgMember _ _) (D' (a:=Value.none) (by first|rfl|(simp only [firstArgMember];rfl)) (Aq ?_ (by size_fits)));simp only [raiseNew];refine A0 (wpAny_handled ?_);(first|rw [show A.in1.handled=none from hh]|rw [hh]);exact A0 (A2 (wpAny_throw (hE _ _ (((B9 ..).extBut.push _).push _) ⟨_,AF _ rfl,rfl⟩)))
theorem pt_ (hh:A.handled=none) (it t:Addr) (hne:t≠it) (vs:Array Value):Draws prog w A it [it,t] vs.size (fun i v=>vs[i]? =some v) (fun i h=>h.IsTupleIter it t i/\h.IsTuple t vs) where
 live:=fun _ _ st=>let ⟨⟨o,ho,_⟩,_⟩:=st;⟨o,ho⟩
 frame:=fun _ _ _ ⟨st1,st2⟩ hk=>⟨st1.at fun o e=>hk it (by simp) o e,st2.at fun o e=>hk t (by simp) o e⟩
 item:=fun i s Q E hi ⟨st1,st2⟩ hQ=>d4_ st1 st2 (x:=vs[i]) (by simp [hi]) fun h' a b=>hQ _ h' s.toks (by simp [hi]) ⟨a,st2.extBut b.extBut hne⟩ b
 done:=fun s Q E ⟨st1,st2⟩ hE=>hv_ hh st1 st2 (by simp) hE
theorem lb_ {t:Addr}{vs:Array Value}{Q:Value->Shared->Prop} (hL:s.heap.IsTuple t vs)
  (h:∀h',IsEnum h' (s.heap.objs.size+1) s.heap.objs.size 0 .none->h'.IsTupleIter s.heap.objs.size t 0->h'.objs.size=s.heap.objs.size+2->(∀b o,s.heap.get? b=some o->h'.get? b=some o)->Q (.ref (s.heap.objs.size+1)) {s with heap:=h'}):
  wpAny (model prog w) A (call (.type "enumerate") [.ref t]) Q E s:=by
 have mt:Meets (Builtin.«enumerate.__new__» ⟨[.type "enumerate", .ref t],[]⟩) (fun _ R s=>s.heap.IsTuple t vs/\R (.ok (.ret (.ref (s.heap.push {cls:= .type "tuple_iterator",data:= .fields #[.ref t, .int 0 0]}).objs.size))) {s with heap:=(s.heap.push {cls:= .type "tuple_iterator",data:= .fields #[.ref t, .int 0 0]}).push {cls:= .type "enumerate",data:= .fields #[.none, .bool false, .ref s.heap.objs.size,rawInt 0, .none, .none]}}):=
  .of_wp fun prog w A R s h=>by
   obtain⟨hp,g,d,tk,os⟩:=s;obtain⟨hL,h⟩:=h;have hsub:=sub_enumerate;obtain⟨⟨c,dct,dt,sl⟩,hl,hc,n,hd⟩:=id hL;have hc:c= .type "tuple":=hc;have hd:dt= .seq vs n:=hd;subst hc hd
   wp_walk using AutoSeq1.wpAny_loadPart' hl
   refine wpAny_stack_any fun st=>A2 ?_;split
   .next c _ _ _ _ _=>cases (c==Value.type "enumerate")<;>(wp_walk using AutoSeq1.wpAny_loadPart' hl,Ct hL;exact⟨_,rfl,h⟩)
   .wp_walk using AutoSeq1.wpAny_loadPart' hl,Ct hL;exact⟨_,rfl,h⟩
 refine callType_new F.called_enumerate (by decide) (F.typeCall_enumerate_1 _) (F.newCall_enumerate_1 _) (fun obj=>F.args_object_init_2 obj _) F.entry_enumerate_new mt ⟨hL, ?_⟩;have hz:(s.heap.push {cls:= .type "tuple_iterator",data:= .fields #[.ref t, .int 0 0]}).objs.size=s.heap.objs.size+1:=Az ..
 show _/\_;rw [hz];have he:=AF (s.heap.push {cls:= .type "tuple_iterator",data:= .fields #[.ref t, .int 0 0]}) (o:={cls:= .type "enumerate",data:= .fields #[.none, .bool false, .ref s.heap.objs.size,rawInt 0, .none, .none]}) rfl;rw [hz] at he;exact⟨⟨_,he,rfl⟩,h _ he ⟨_,A6 _ (AF _ rfl),rfl,rfl⟩ (by rw [Az,hz]) fun b o x=>A6 _ (A6 _ x)⟩
end
def q9_ (K:W.Frag) (a:Addr):It:=
 ⟨fun i H=>∃xs x,SqT K H a xs/\xs[i]? =some x,fun i H v H'=>∃x p,(∀xs,SqT K H a xs->xs[i]? =some x)/\v= .ref p/\H p=none/\H'=upd H p (.tup [.int i,x]),fun i H=>∃xs,SqT K H a xs/\xs.length=i⟩
theorem kB_ {P:Program}{w:World}{K:W.Frag}{elts:List Expr}{k:Nat}{pos:Pos} (a e it:Addr) (hne:e≠it) (hai:a≠it) (hae:e≠a):
  Turn P w K (.Tuple elts k pos) (q9_ K a) [e,it] e (fun i h=>(∃old,IsEnum h e it (i:Nat) old)/\h.IsTupleIter it a i) where
 mem:=by simp
 obj:=fun i h st b hb=>by
  obtain⟨⟨old,h1⟩,o,h2,h3,h4⟩:=st;simp only [AJ,As,Bo] at hb;rcases hb with rfl|rfl
  .exact⟨_,h1,fun v y=>by cases y⟩
  .exact⟨o,h2,fun v y=>by rw [h4] at y;cases y⟩
 keep:=fun i h h' ⟨⟨old,z⟩,st2⟩ kk=>⟨⟨old,kk e (by simp) _ z⟩,st2.at fun o z=>kk it (by simp) o z⟩
 item:=by
  intro X hP hw hK hc i pins s σ H E I hf st hg;subst hP hw hK;obtain⟨xs,x,hq,hx⟩:=hg;obtain⟨its,rv,p,hz⟩:=I.tuple hq;obtain⟨u,hu,ru⟩:=rv.get hx;obtain⟨⟨old,he⟩,hit⟩:=st;have ltE:e<s.heap.objs.size:=AI he;have hlt:i<its.toArray.size:=by have:=(AD.mp hu).1;simpa using this
  refine wpAny_pyNext_enum_itemD (pt_ (A:=X.A.in1) (show X.A.in1.handled=none from I.ok.hd hc) it a hai its.toArray) he ⟨hit,p⟩ hlt hne (by simp [hne,hae]) fun x' h' tk px ho ⟨hit',_⟩ hT hsz hk=>⟨.ref s.heap.objs.size,rfl, ?_⟩;obtain rfl:x'=u:=by
   have px:its.toArray[i]? =some x':=px;have:its[i]? =some x':=by simpa using px
   rw [hu] at this;exact(Ae this).symm
  refine wpAny_letOwnedTupleGo_enum ho fun h2 he2 sb=> ?_;have k2:∀b o,b∉[e,it]->s.heap.get? b=some o->h2.get? b=some o:=fun b o n z=>by
   simp only [AJ,As,Bo,not_or] at n;exact(sb.2 b n.1).trans (hk b o n.1 n.2 z)
  have hT2:h2.get? s.heap.objs.size=some {cls:= .type "tuple",data:= .seq #[.int i tk,x']}:=(sb.2 _ (BW ltE)).trans hT;refine⟨.ref s.heap.objs.size,upd H s.heap.objs.size (.tup [.int i,x]),I.turnNew (t':=tk+1) hf k2 ⟨by show 2<=sizeLine;decide,[.int i tk,x'], .cons ⟨_,rfl⟩ (.cons ru .nil),⟨_,hT2,rfl,_,rfl⟩⟩,rfl,⟨x,_,fun ys hy=>by rw [I.tuple_inj hy hq];exact hx,rfl,I.hok.fresh (AA _),rfl⟩,⟨⟨x',by simpa using he2⟩,hit'.at fun o z=>(sb.2 it hne.symm).trans z⟩,fun b hb=> ?_⟩;have there:∃o,s.heap.get? b=some o:=by
   simp only [AJ,As,Bo] at hb;rcases hb with rfl|rfl
   .exact⟨_,he⟩
   .exact hit.imp fun o q=>q.1
  obtain⟨o,q⟩:=there;rw [ak_ (AL (AI q))];exact(hf b hb).1
 done:=by
  intro X hP hw hK hc i pins s σ H E I hf st hg;subst hP hw hK;obtain⟨xs,hq,hx⟩:=hg;obtain⟨its,rv,p,hz⟩:=I.tuple hq;obtain⟨⟨old,he⟩,hit⟩:=st;have hl:=rv.length;obtain⟨f0,f1,f2,f3,f4,f5⟩:=hf it (by simp);have hn:i=its.toArray.size:=by simp;lia
  exact wpAny_pyNext_enum_endD (pt_ (A:=X.A.in1) (show X.A.in1.handled=none from I.ok.hd hc) it a hai its.toArray) he ⟨hn▸hit,p⟩ fun h' eb=>⟨rfl,I.turned (t':=s.toks) (fun b o hb z=>eb b o hb z) f0 f1 f3 f4 f5⟩
 self:=fun _ _ _ _ _ st h=>let ⟨⟨_,z⟩,_⟩:=st;wpAny_pyIter_enum z h
section
variable {X:Cx}{elts:List Expr}{k:Nat}{tpos p pos:Pos}{e:Expr}{te:TE}
def sx_ (K:W.Frag) (tl:TE):TI:=fun σ H R=>tl σ H fun x H1=>∃a,x= .ref a/\(∃xs,SqT K H1 a xs)/\R (q9_ K a) H1
theorem f8_ (hg:Gl X "enumerate") (hm:X.mg "enumerate"=none) (hl:PE X e te) (he:starEach [e] X.env=[(false,eval e X.env)]:=by rfl):PI X (.Tuple elts k tpos) (.Call (.Name "enumerate" p) [e] [] pos) (sx_ X.K te):=by
 intro pins s σ H R I h;refine Ba (cK_ I hg hm boot_enumerate ?_);refine BH (thn ((aa_ hl ab_ he) _ pins s σ H (fun vs H1=>match vs with|[x]=>(∃a,x= .ref a/\(∃xs,SqT X.K H1 a xs)/\R (q9_ X.K a) H1)|_=>False) I h) fun us s1 ⟨vs,H1,I1,r1,q1⟩=> ?_) he (by rfl)
 match vs,q1,r1 with
 |[x],q1,r1=>
 obtain⟨a,rfl,⟨xs,hq⟩,q⟩:=q1;obtain⟨u,rfl,ru⟩:=ek_ r1;obtain rfl:u=Value.ref a:=ru;obtain⟨its,rv,pl,hz⟩:=I1.tuple hq;have la:a<s1.heap.objs.size:=let ⟨_,q,_⟩:=pl;AI q;refine lb_ (show s1.heap.IsTuple a its.toArray from pl) fun h' hen hit hsz hk=> ?_;refine wpAny_pyIter_enum hen ?_;refine⟨_,[_,_],_,_,H1,rfl,I1.kept (t':=s1.toks) hk,kB_ a _ _ (BW (BP _)) (AL la) (BW (Ad la)),⟨⟨_,by simpa using hen⟩,hit⟩,fun b hb=> ?_,q⟩;have fr:∀b,s1.heap.objs.size<=b->ip_ X pins H1 b:=fun b z=>I1.fpOk z (I1.hok.fresh z);simp only [AJ,As,Bo] at hb;rcases hb with rfl|rfl<;>exact fr _ (by lia)
end
theorem hS_ {K:W.Frag}{a:Addr}{xs:List V}{g:TG}{tb:TS}{D:Ends}{σ:St}{H:Hp} (Pv:Nat->St->Hp->Prop) (h0:Pv 0 σ H) (hl:∀i σ H,i<=xs.length->Pv i σ H->SqT K H a xs)
  (hs:∀i x σ H p,xs[i]? =some x->Pv i σ H->H p=none->g (.ref p) σ (upd H p (.tup [.int i,x])) fun σ2 H2=>tb {D with nx:=Pv (i+1),ct:=Pv (i+1),bk:=D.nx} σ2 H2) (hd:∀σ H,Pv xs.length σ H->D.nx σ H):
  ∃Wq:Nat->Nat->St->Hp->Prop,(∃m,Wq 0 m σ H)/\∀i m σ H,Wq i m σ H->
   ((q9_ K a).stop i H/\D.nx σ H)\/((q9_ K a).go i H/\∃N:St->Hp->Prop,(∀σ' H',N σ' H'->∃m',m'<m/\Wq (i+1) m' σ' H')/\∀x H',(q9_ K a).yld i H x H'->g x σ H' fun σ2 H2=>tb {D with nx:=N,ct:=N,bk:=D.nx} σ2 H2):=by
 refine⟨fun i m σ H=>m=xs.length-i/\i<=xs.length/\Pv i σ H,⟨xs.length,by simp,AM _,h0⟩, ?_⟩;rintro i m σ H ⟨rfl,hi,p⟩;have q:=hl i σ H hi p;by_cases hlt:i<xs.length
 .refine .inr ⟨⟨xs,xs[i],q,by simp [hlt]⟩,Pv (i+1),fun σ' H' p'=>⟨xs.length-(i+1),by lia,rfl,hlt,p'⟩,fun x H' y=> ?_⟩;obtain⟨z,pp,e1,e2,e3,e4⟩:=y;subst e2 e4;exact hs i z σ H pp (e1 xs q) p e3
 .obtain rfl:i=xs.length:=by lia
  exact .inl ⟨⟨xs,q,rfl⟩,hd σ H p⟩
theorem k5_ {K:W.Frag}{a:Addr}{xs:List V}{own:Nat}{js:List Nat}{g:TG}{ti:TT}{te:TE}{σ:St}{H1:Hp}{acc:Addr}{Q:VK} (Pv:Nat->Hp->Prop) (h0:Pv 0 (upd H1 acc (.lst []))) (hl:∀i H2,i<=xs.length->Pv i H2->SqT K H2 a xs)
  (hs:∀i x H2 p,xs[i]? =some x->Pv i H2->H2 p=none->g (.ref p) (k8_ own js σ) (upd H2 p (.tup [.int i,x])) fun σ4 H4=>ti σ4 H4 fun b H5=>if b=true then te σ4 H5 fun y H6=>de_ (.ref acc) [y] H6 fun _ H7=>Pv (i+1) H7 else Pv (i+1) H5) (hd:∀H2,Pv xs.length H2->Q (.ref acc) H2)
  (mono:∀σ H (R R':St->Hp->Prop) x,(∀σ' H',R σ' H'->R' σ' H')->g x σ H R->g x σ H R') (monoT:∀σ H (R R':Bool->Hp->Prop),(∀b H',R b H'->R' b H')->ti σ H R->ti σ H R') (monoE:∀σ H (R R':VK),(∀v H',R v H'->R' v H')->te σ H R->te σ H R'):
  lh_ (q9_ K a) own js g ti te σ H1 acc Q:=by
 refine⟨fun i m H2=>m=xs.length-i/\i<=xs.length/\Pv i H2,⟨xs.length,by simp,AM _,h0⟩, ?_⟩;rintro i m H2 ⟨rfl,hi,p⟩;have qa:=hl i H2 hi p;by_cases hlt:i<xs.length
 .refine .inr ⟨⟨xs,xs[i],qa,by simp [hlt]⟩,fun v H3 z=> ?_⟩;obtain⟨x,pp,e1,e3,e4,e5⟩:=z;subst e3 e5;refine mono _ _ _ _ _ (fun σ4 H4 q=>monoT _ _ _ _ (fun b H5 q=> ?_) q) (hs i x _ pp (e1 xs qa) p e4);cases b with
  |true=>
   refine monoE _ _ _ _ (fun v H6 q=> ?_) q;obtain⟨l,zs,y,a1,a2,a3,a4,a5⟩:=q;exact⟨l,zs,y,a1,a2,a3,a4,_,by lia,rfl,hlt,a5⟩
  |false=>exact⟨_,by lia,rfl,hlt,q⟩
 .obtain rfl:i=xs.length:=by lia
  exact .inl ⟨⟨xs,qa,rfl⟩,hd H2 p⟩
theorem k6_ {K:W.Frag}{a:Addr}{xs:List V}{own:Nat}{js:List Nat}{g:TG}{ti:TT}{te:TE}{σ:St}{H1:Hp}{acc:Addr}{Q:VK} (Pv:Nat->Hp->Prop) (h0:Pv 0 (upd H1 acc (.lst []))) (hl:∀i H2,i<=xs.length->Pv i H2->SqL K H2 a xs)
  (hs:∀i x H2 p,xs[i]? =some x->Pv i H2->H2 p=none->g (.ref p) (k8_ own js σ) (upd H2 p (.tup [.int i,x])) fun σ4 H4=>ti σ4 H4 fun b H5=>if b=true then te σ4 H5 fun y H6=>de_ (.ref acc) [y] H6 fun _ H7=>Pv (i+1) H7 else Pv (i+1) H5) (hd:∀H2,Pv xs.length H2->Q (.ref acc) H2)
  (mono:∀σ H (R R':St->Hp->Prop) x,(∀σ' H',R σ' H'->R' σ' H')->g x σ H R->g x σ H R') (monoT:∀σ H (R R':Bool->Hp->Prop),(∀b H',R b H'->R' b H')->ti σ H R->ti σ H R') (monoE:∀σ H (R R':VK),(∀v H',R v H'->R' v H')->te σ H R->te σ H R'):
  lh_ (Ite K a) own js g ti te σ H1 acc Q:=by
 refine⟨fun i m H2=>m=xs.length-i/\i<=xs.length/\Pv i H2,⟨xs.length,by simp,AM _,h0⟩, ?_⟩;rintro i m H2 ⟨rfl,hi,p⟩;have qa:=hl i H2 hi p;by_cases hlt:i<xs.length
 .refine .inr ⟨⟨xs,xs[i],qa,by simp [hlt]⟩,fun v H3 z=> ?_⟩;obtain⟨x,pp,e1,e3,e4,e5⟩:=z;subst e3 e5;refine mono _ _ _ _ _ (fun σ4 H4 q=>monoT _ _ _ _ (fun b H5 q=> ?_) q) (hs i x _ pp (e1 xs qa) p e4);cases b with
  |true=>
   refine monoE _ _ _ _ (fun v H6 q=> ?_) q;obtain⟨l,zs,y,a1,a2,a3,a4,a5⟩:=q;exact⟨l,zs,y,a1,a2,a3,a4,_,by lia,rfl,hlt,a5⟩
  |false=>exact⟨_,by lia,rfl,hlt,q⟩
 .obtain rfl:i=xs.length:=by lia
  exact .inl ⟨⟨xs,qa,AA _⟩,hd H2 p⟩
theorem h7_ {X:Cx} (hc:X.calm=true):bQ_ X (.builtin "sum") (fun xs H Q=>∃(p:Addr) (ns:List Int),xs=[.ref p]/\SqT X.K H p (ns.map V.int)/\Q (.int ns.sum) H):=by
 intro pins s σ H xs us Q I r h;obtain⟨p,ns,rfl,hq,q⟩:=h;obtain⟨u,rfl,rx⟩:=ek_ r;cases rx;obtain⟨its,r',pl,hz⟩:=I.tuple hq;have hi:IntsAre its ns:=ea_ r';obtain⟨ys,e⟩:=hi.allInts.items;have hl:s.heap.IsTuple p its.toArray:=pl;rw [e] at hl;have n1:=hi.numsOf;rw [show its=its.toArray.toList from rfl,e,nums_intItems] at n1;have lt:p<s.heap.objs.size:=let ⟨_,q,_⟩:=hl;AI q;refine call_sum_walkG (Ct hl ?_);refine⟨_,_,_,_,_,_,numAt ys,rfl,Walks.tuple (A:=X.A.in1) (show X.A.in1.handled=none from I.ok.hd hc) _ p (AL lt) (intItems ys),⟨⟨_,AF _ rfl,rfl,rfl⟩,hl.push _⟩,fun b hb=> ?_,fun _ _=>intItems_at,fun h' tk t' hk=> ?_⟩
 .simp only [AJ,As,Bo] at hb;rw [Az];rcases hb with rfl|rfl
  .exact BP _
  .exact Ad lt
 .refine⟨.int ns.sum,H,I.kept fun b o z=>hk b o (fun y=> ?_) (A6 _ z),⟨t', ?_⟩,q⟩
  .simp only [AJ,As,Bo] at y;exact absurd (AI z) (by rw [y];exact Bk _)
  .rw [preSum_eq,List.take_of_length_le (by simp [intItems]),n1]
section
variable {prog:Program}{w:World}{A:Around}{E:Value->Shared->Prop}{s:Shared}
theorem lk_ {z TI TO i1 i2 l1 l2:Addr}{k1 k2:Nat}{xs ys:Array Value}{x y a b:Value}{Q:Option Value->Shared->Prop} (D:ZipApart z TI TO i1 i2 l1 l2) (hz:IsZip s.heap z TI TO .none) (hTI:IsPair s.heap TI (.ref i1) (.ref i2)) (hTO:IsPair s.heap TO a b)
  (h1:s.heap.IsTupleIter i1 l1 k1) (h2:s.heap.IsTupleIter i2 l2 k2) (hl1:s.heap.IsTuple l1 xs) (hl2:s.heap.IsTuple l2 ys) (hx:xs[k1]? =some x) (hy:ys[k2]? =some y)
  (hQ:∀h',IsZip h' z TI TO (rawInt s.heap.objs.size)->IsPair h' TO x y->h'.IsTupleIter i1 l1 (k1+1)->h'.IsTupleIter i2 l2 (k2+1)->IsPair h' s.heap.objs.size x y->h'.objs.size=s.heap.objs.size+1->(∀c o,c≠z->c≠TO->c≠i1->c≠i2->s.heap.get? c=some o->h'.get? c=some o)->Q (some (.ref s.heap.objs.size)) {s with heap:=h'}):
  wpAny (model prog w) A (pyNext (.ref z)) Q E s:=by
 have hT:s.TypeIs (.ref z) "zip":=⟨_,hz,rfl⟩;unfold pyNext;refine A0 (Bv (Ax (name:=Str.ofString "__next__") hT F.slot_zip_next (Ab F.slot_zip_next hT F.entry_zip_next ?_ (F.args_zip_next_1 _))));show wpAny _ _ (field (.ref z) 2>>=_) _ _ _;refine A0 (BY hz rfl (x:= .bool false) rfl ?_);show wpAny _ _ (field (.ref z) 3>>=_) _ _ _;refine A0 (BY hz rfl (x:= .ref TI) rfl (A0 (Bi hTI rfl ?_)));show wpAny _ _ (Builtin.SmallTypes.ownedTupleIsFree (.ref z)>>=_) _ _ _;refine A0 ?_;unfold Builtin.SmallTypes.ownedTupleIsFree;refine A0 (BY hz rfl (x:= .none) rfl (A2 ?_));simp only [C2];refine A0 (CB (A0 (BY hz rfl (x:= .ref TO) rfl (A0 (Cs hz (by simp) fun a1 hz1 s1=> ?_)))));have hz1:IsZip a1 z TI TO .ellipsis:=hz1;refine A0 ?_;simp only [List.zipIdx_cons,List.zipIdx_nil,CY,List.forIn_nil];refine A0 (A0 (wpAny_onRaise ?_));show wpAny _ _ (Builtin.SmallTypes.nextOf (.ref i1)>>=_) _ _ _;refine A0 (d4_ (h1.extBut s1.extBut D.i1z) (hl1.extBut s1.extBut D.l1z) hx fun a2 g1 s2=>A2 ?_);have o2:IsPair a2 TO a b:=s2.extBut _ _ D.TOi1 (s1.extBut _ _ D.TOz hTO);refine A0 (Bi o2 rfl (A0 (wpAny_updateSeq_pair o2 fun a3 o3 s3=> ?_)));have o3:IsPair a3 TO x b:=o3;refine A0 (wpAny_letGo (A2 ?_));refine A0 (A0 (wpAny_onRaise ?_));show wpAny _ _ (Builtin.SmallTypes.nextOf (.ref i2)>>=_) _ _ _;refine A0 (d4_ (((h2.extBut s1.extBut D.i2z).extBut s2.extBut D.i12.symm).extBut s3.extBut D.TOi2.symm) (((hl2.extBut s1.extBut D.l2z).extBut s2.extBut D.l2i1).extBut s3.extBut D.l2TO) hy fun a4 g2 s4=>A2 ?_);have o4:IsPair a4 TO x b:=s4.extBut _ _ D.TOi2 o3;refine A0 (Bi o4 rfl (A0 (wpAny_updateSeq_pair o4 fun a5 o5 s5=> ?_)));have o5:IsPair a5 TO x y:=o5;refine A0 (wpAny_letGo (A2 (A2 ?_)));refine A0 (Bi o5 rfl (A0 (wpAny_newTuple ?_)));have sz:a5.objs.size=s.heap.objs.size:=by rw [s5.1,s4.1,s3.1,s2.1,s1.1]
 have z5:IsZip a5 z TI TO .ellipsis:=s5.extBut _ _ D.TOz.symm (s4.extBut _ _ D.i2z.symm (s3.extBut _ _ D.TOz.symm (s2.extBut _ _ D.i1z.symm hz1)));have k5:∀c o,c≠z->c≠TO->c≠i1->c≠i2->s.heap.get? c=some o->a5.get? c=some o:=fun c o c1 c2 c3 c4 e=>s5.extBut _ _ c2 (s4.extBut _ _ c4 (s3.extBut _ _ c2 (s2.extBut _ _ c3 (s1.extBut _ _ c1 e))));have m1:a5.IsTupleIter i1 l1 (k1+1):=((g1.extBut s3.extBut D.TOi1.symm).extBut s4.extBut D.i12).extBut s5.extBut D.TOi1.symm;have m2:a5.IsTupleIter i2 l2 (k2+1):=g2.extBut s5.extBut D.TOi2.symm;have zl:z<a5.objs.size:=AI z5;show wpAny _ _ (Builtin.SmallTypes.ownedTupleHandOut (.ref z) (.ref a5.objs.size)>>=_) _ _ _;refine A0 ?_;unfold Builtin.SmallTypes.ownedTupleHandOut;have z6:IsZip (a5.push {cls:= .type "tuple",data:= .seq #[x,y]}) z TI TO .ellipsis:=A6 _ z5;refine A0 (Cs z6 (by simp) fun a7 z7 s7=> ?_);have z7:IsZip a7 z TI TO (rawInt a5.objs.size):=z7;refine Cs z7 (by simp) fun a8 z8 s8=> ?_;have z8:IsZip a8 z TI TO (rawInt a5.objs.size):=z8;have up:∀c o,c≠z->a5.get? c=some o->a8.get? c=some o:=fun c o c1 e=>s8.extBut _ _ c1 (s7.extBut _ _ c1 (A6 _ e));have t8:IsPair a8 a5.objs.size x y:=s8.extBut _ _ (BW zl) (s7.extBut _ _ (BW zl) (AF _ rfl));have e8:a8.objs.size=a5.objs.size+1:=by rw [s8.1,s7.1,Az]
 rw [sz] at z8 t8 e8;refine A2 ⟨_,rfl,A2 ?_⟩;show Q (some (.ref a5.objs.size)) _;rw [sz];exact hQ a8 z8 (up _ _ D.TOz o5) (m1.at fun o e=>up _ o D.i1z e) (m2.at fun o e=>up _ o D.i2z e) t8 e8 fun c o c1 c2 c3 c4 e=>up c o c1 (k5 c o c1 c2 c3 c4 e)
theorem nG_ {z TI TO i1 i2 l1 l2:Addr}{k1:Nat}{xs:Array Value}{a b:Value}{Q:Option Value->Shared->Prop} (hh:A.handled=none) (D:ZipApart z TI TO i1 i2 l1 l2) (hz:IsZip s.heap z TI TO .none) (hTI:IsPair s.heap TI (.ref i1) (.ref i2)) (hTO:IsPair s.heap TO a b)
  (h1:s.heap.IsTupleIter i1 l1 k1) (hl1:s.heap.IsTuple l1 xs) (hx:xs[k1]? =none) (hQ:∀h',(∀c o,c≠z->c≠TO->c≠i1->c≠i2->s.heap.get? c=some o->h'.get? c=some o)->Q none {s with heap:=h'}):wpAny (model prog w) A (pyNext (.ref z)) Q E s:=by
 have hT:s.TypeIs (.ref z) "zip":=⟨_,hz,rfl⟩;unfold pyNext;refine A0 (Bv (Ax (name:=Str.ofString "__next__") hT F.slot_zip_next (Ab F.slot_zip_next hT F.entry_zip_next ?_ (F.args_zip_next_1 _))));show wpAny _ _ (field (.ref z) 2>>=_) _ _ _;refine A0 (BY hz rfl (x:= .bool false) rfl ?_);show wpAny _ _ (field (.ref z) 3>>=_) _ _ _;refine A0 (BY hz rfl (x:= .ref TI) rfl (A0 (Bi hTI rfl ?_)));show wpAny _ _ (Builtin.SmallTypes.ownedTupleIsFree (.ref z)>>=_) _ _ _;refine A0 ?_;unfold Builtin.SmallTypes.ownedTupleIsFree;refine A0 (BY hz rfl (x:= .none) rfl (A2 ?_));simp only [C2];refine A0 (CB (A0 (BY hz rfl (x:= .ref TO) rfl (A0 (Cs hz (by simp) fun a1 hz1 s1=> ?_)))));have hz1:IsZip a1 z TI TO .ellipsis:=hz1;refine A0 ?_;simp only [List.zipIdx_cons,List.zipIdx_nil,CY,List.forIn_nil];refine A0 (A0 (wpAny_onRaise ?_));show wpAny _ _ (Builtin.SmallTypes.nextOf (.ref i1)>>=_) _ _ _;refine A0 (hv_ hh (h1.extBut s1.extBut D.i1z) (hl1.extBut s1.extBut D.l1z) hx fun a2 e s2 he=> ?_);obtain⟨oe,hoe,hce⟩:=he;have z2:IsZip a2 z TI TO .ellipsis:=s2 _ _ D.i1z.symm hz1;have ez:e≠z:=fun x=>by subst x;rw [z2] at hoe;cases hoe;simp at hce
 refine Cs z2 (by simp) fun a3 _ s3=> ?_;refine A0 (Bw (T:="StopIteration") (b:=true) ⟨oe,s3.extBut _ _ ez hoe,hce⟩ isSubtype_stop (A2 (hQ _ fun c o c1 _ c3 _ x=>s3.extBut _ _ c1 (s2 _ _ c3 (s1.extBut _ _ c1 x)))))
end
section
variable {prog:Program}{w:World}{A:Around}{E:Value->Shared->Prop}{s:Shared}
abbrev tz1 (h:Heap) (a:Addr):Heap:=h.push {cls:= .type "tuple_iterator",data:= .fields #[.ref a, .int 0 0]}
abbrev tz2 (h:Heap) (a b:Addr):Heap:=(tz1 h a).push {cls:= .type "tuple_iterator",data:= .fields #[.ref b, .int 0 0]}
abbrev tz3 (h:Heap) (a b:Addr):Heap:=(tz2 h a b).push {cls:= .type "tuple",data:= .seq #[.ref h.objs.size, .ref (tz1 h a).objs.size]}
abbrev tz4 (h:Heap) (a b:Addr):Heap:=(tz3 h a b).push {cls:= .type "tuple",data:= .seq #[.none, .none]}
abbrev tz5 (h:Heap) (a b:Addr):Heap:=(tz4 h a b).push {cls:= .type "zip",data:= .fields #[.none, .bool false, .bool false, .ref (tz2 h a b).objs.size, .ref (tz3 h a b).objs.size]}
theorem nj_ {a b:Addr}{xs ys:Array Value}{Q:Value->Shared->Prop} (ha:s.heap.IsTuple a xs) (hb:s.heap.IsTuple b ys)
  (h:∀h',IsZip h' (s.heap.objs.size+4) (s.heap.objs.size+2) (s.heap.objs.size+3) .none->IsPair h' (s.heap.objs.size+2) (.ref s.heap.objs.size) (.ref (s.heap.objs.size+1))->IsPair h' (s.heap.objs.size+3) .none .none->h'.IsTupleIter s.heap.objs.size a 0->h'.IsTupleIter (s.heap.objs.size+1) b 0->(∀c o,s.heap.get? c=some o->h'.get? c=some o)->Q (.ref (s.heap.objs.size+4)) {s with heap:=h'}):
  wpAny (model prog w) A (call (.type "zip") [.ref a, .ref b]) Q E s:=by
 have mt:Meets (Builtin.«zip.__new__» ⟨[.type "zip", .ref a, .ref b],[]⟩) (fun _ R s=>s.heap.IsTuple a xs/\s.heap.IsTuple b ys/\R (.ok (.ret (.ref (tz4 s.heap a b).objs.size))) {s with heap:=tz5 s.heap a b}):=
  .of_wp fun prog w A R s h=>by
   obtain⟨hp,g,d,tk,os⟩:=s;obtain⟨h1,h2,h⟩:=h;have hsub:=sub_zip;have hL1:Heap.IsTuple (Shared.heap ⟨hp,g,d,tk,os⟩) a xs:=h1;have hL2:Heap.IsTuple (Shared.heap ⟨hp.push {cls:= .type "tuple_iterator",data:= .fields #[.ref a, .int 0 0]},g,d,tk,os⟩) b ys:=Heap.IsTuple.push h2 _
   wp_walk using wpAny_pyIter_tuple hL1,Ct hL2
   exact⟨_,rfl,h⟩
 refine callType_new F.called_zip (by decide) (F.typeCall_zip_2 _ _) (F.newCall_zip_2 _ _) (fun obj=>F.args_object_init_3 obj _ _) F.entry_zip_new mt ⟨ha,hb, ?_⟩;have z1:(tz1 s.heap a).objs.size=s.heap.objs.size+1:=Az ..
 have z2:(tz2 s.heap a b).objs.size=s.heap.objs.size+2:=by rw [Az,z1]
 have z3:(tz3 s.heap a b).objs.size=s.heap.objs.size+3:=by rw [Az,z2]
 have z4:(tz4 s.heap a b).objs.size=s.heap.objs.size+4:=by rw [Az,z3]
 have g5:(tz5 s.heap a b).get? (tz4 s.heap a b).objs.size=some _:=AF _ rfl;have g4:(tz5 s.heap a b).get? (tz3 s.heap a b).objs.size=some _:=A6 _ (AF _ rfl);have g3:(tz5 s.heap a b).get? (tz2 s.heap a b).objs.size=some _:=A6 _ (A6 _ (AF _ rfl));have g2:(tz5 s.heap a b).get? (tz1 s.heap a).objs.size=some _:=A6 _ (A6 _ (A6 _ (AF _ rfl)));have g1:(tz5 s.heap a b).get? s.heap.objs.size=some _:=A6 _ (A6 _ (A6 _ (A6 _ (AF _ rfl))));show _/\_;rw [z2,z3,z4] at g5;rw [z1,z2] at g3;rw [z3] at g4;rw [z1] at g2;rw [z4];exact⟨⟨_,g5,rfl⟩,h _ g5 g3 g4 ⟨_,g1,rfl,rfl⟩ ⟨_,g2,rfl,rfl⟩ fun c o x=>A6 _ (A6 _ (A6 _ (A6 _ (A6 _ x))))⟩
end
def ItzT (K : W.Frag) (a b : Addr) : It :=
  ⟨fun i H => ∃ xs x ys y, SqT K H a xs /\ SqT K H b ys /\ xs[i]? = some x /\ ys[i]? = some y,
   fun i H v H' => ∃ x y p, (∀ xs, SqT K H a xs -> xs[i]? = some x) /\ (∀ ys, SqT K H b ys -> ys[i]? = some y) /\ v = .ref p /\ H p = none /\ H' = upd H p (.tup [x, y]),
   fun i H => ∃ xs, SqT K H a xs /\ xs.length <= i⟩
theorem lw_ {P:Program}{w:World}{K:W.Frag}{elts:List Expr}{k:Nat}{pos:Pos}{z TI TO i1 i2 a b:Addr} (D:ZipApart z TI TO i1 i2 a b):
  Turn P w K (.Tuple elts k pos) (ItzT K a b) [z,TI,TO,i1,i2] z (fun i h=>IsZip h z TI TO .none/\IsPair h TI (.ref i1) (.ref i2)/\(∃x y,IsPair h TO x y)/\h.IsTupleIter i1 a i/\h.IsTupleIter i2 b i) where
 mem:=by simp
 obj:=fun i h st c hc=>by
  obtain⟨h1,h2,⟨x,y,h3⟩,⟨o4,h4,_,d4⟩,⟨o5,h5,_,d5⟩⟩:=st;simp only [AJ,As,Bo] at hc;rcases hc with rfl|rfl|rfl|rfl|rfl
  .exact⟨_,h1,fun v q=>by cases q⟩
  .exact⟨_,h2,fun v q=>by cases q⟩
  .exact⟨_,h3,fun v q=>by cases q⟩
  .exact⟨_,h4,fun v q=>by rw [d4] at q;cases q⟩
  .exact⟨_,h5,fun v q=>by rw [d5] at q;cases q⟩
 keep:=fun i h h' st kk=>⟨kk z (by simp) _ st.1,kk TI (by simp) _ st.2.1,st.2.2.1.imp fun x q=>q.imp fun y q=>kk TO (by simp) _ q,st.2.2.2.1.at fun o q=>kk i1 (by simp) o q,st.2.2.2.2.at fun o q=>kk i2 (by simp) o q⟩
 item:=by
  intro X hP hw hK hc i pins s σ H E I hf st hg;subst hP hw hK;obtain⟨xs,x,ys,y,hqa,hqb,hx,hy⟩:=hg;obtain⟨as,ra,pa,za⟩:=I.tuple hqa;obtain⟨bs,rb,pb,zb⟩:=I.tuple hqb;obtain⟨u,hu,ru⟩:=ra.get hx;obtain⟨v,hv,rv⟩:=rb.get hy;obtain⟨hz,hTI,⟨_,_,hTO⟩,h1,h2⟩:=st;have ltz:z<s.heap.objs.size:=AI hz;refine lk_ D hz hTI hTO h1 h2 (show s.heap.IsTuple a as.toArray from pa) (show s.heap.IsTuple b bs.toArray from pb) (x:=u) (y:=v) (by simpa using hu) (by simpa using hv) fun h' hz' hTO' h1' h2' hT hsz hk=>⟨.ref s.heap.objs.size,rfl, ?_⟩;refine wpAny_letOwnedTupleGo_zip hz' fun h3 hz3 sb=> ?_;have kk:∀c o,c∉[z,TI,TO,i1,i2]->s.heap.get? c=some o->h3.get? c=some o:=fun c o n e=>by
   simp only [AJ,As,Bo,not_or] at n;exact(sb.2 c n.1).trans (hk c o n.1 n.2.2.1 n.2.2.2.1 n.2.2.2.2 e)
  have hT3:h3.get? s.heap.objs.size=some {cls:= .type "tuple",data:= .seq #[u,v]}:=(sb.2 _ (BW ltz)).trans hT;have hTI3:IsPair h3 TI (.ref i1) (.ref i2):=(sb.2 _ D.TIz).trans (hk _ _ D.TIz D.TITO D.TIi1 D.TIi2 hTI);refine⟨.ref s.heap.objs.size,upd H s.heap.objs.size (.tup [x,y]),I.turnNew (t':=s.toks) hf kk ⟨by show 2<=sizeLine;decide,[u,v], .cons ru (.cons rv .nil),⟨_,hT3,rfl,_,rfl⟩⟩,rfl,
   ⟨x,y,_,fun zs hy'=>by rw [I.tuple_inj hy' hqa];exact hx,fun zs hy'=>by rw [I.tuple_inj hy' hqb];exact hy,rfl,I.hok.fresh (AA _),rfl⟩,
   ⟨hz3,hTI3,⟨_,_,(sb.2 _ D.TOz).trans hTO'⟩,h1'.at fun o q=>(sb.2 _ D.i1z).trans q,h2'.at fun o q=>(sb.2 _ D.i2z).trans q⟩,fun c hc=> ?_⟩
  have there:∃o,s.heap.get? c=some o:=by
   simp only [AJ,As,Bo] at hc;rcases hc with rfl|rfl|rfl|rfl|rfl
   .exact⟨_,hz⟩
   .exact⟨_,hTI⟩
   .exact⟨_,hTO⟩
   .exact h1.imp fun o q=>q.1
   .exact h2.imp fun o q=>q.1
  obtain⟨o,q⟩:=there;rw [ak_ (AL (AI q))];exact(hf c hc).1
 done:=by
  intro X hP hw hK hc i pins s σ H E I hf st hg;subst hP hw hK;obtain⟨xs,hqa,hx⟩:=hg;obtain⟨as,ra,pa,za⟩:=I.tuple hqa;obtain⟨hz,hTI,⟨_,_,hTO⟩,h1,h2⟩:=st;have la:=ra.length;refine nG_ (I.ok.hd hc) D hz hTI hTO h1 (show s.heap.IsTuple a as.toArray from pa) (by simp;lia) fun h' hk=>⟨rfl,I.turnAll (t':=s.toks) hf fun c o n e=> ?_⟩;simp only [AJ,As,Bo,not_or] at n;exact hk c o n.1 n.2.2.1 n.2.2.2.1 n.2.2.2.2 e
 self:=fun _ _ _ _ _ st h=>wpAny_pyIter_zip st.1 h
section
variable {X:Cx}{elts:List Expr}{k:Nat}{tpos p pos:Pos}{e f:Expr}{te tf:TE}
def uj_ (K:W.Frag) (ta:TA):TI:=fun σ H R=>ta σ H fun vs H1=>∃a b,vs=[.ref a, .ref b]/\(∃xs,SqT K H1 a xs)/\(∃ys,SqT K H1 b ys)/\R (ItzT K a b) H1
theorem p8_ {ta:TA} (hg:Gl X "zip") (hm:X.mg "zip"=none) (hl:PA X [e,f] ta) (he:starEach [e,f] X.env=(false,eval e X.env)::starEach [f] X.env:=by rfl) (hp:(backTo pos (starEach [f] X.env)).any (·.1)=false:=by rfl):
  PI X (.Tuple elts k tpos) (.Call (.Name "zip" p) [e,f] [] pos) (uj_ X.K ta):=by
 intro pins s σ H R I h;refine Ba (cK_ I hg hm PyProof.Rows.Boot.«zip» ?_);refine BH (thn (hl _ pins s σ H _ I h) fun us s1 ⟨vs,H1,I1,r1,a,b,ev,⟨xs,hqa⟩,⟨ys,hqb⟩,q⟩=> ?_) he hp;subst ev;obtain⟨u,v,rfl,ru,rv⟩:=ls_ r1;obtain rfl:u=Value.ref a:=ru;obtain rfl:v=Value.ref b:=rv;obtain⟨as,ra,pa,za⟩:=I1.tuple hqa;obtain⟨bs,rb,pb,zb⟩:=I1.tuple hqb;have la:a<s1.heap.objs.size:=let ⟨_,q,_⟩:=pa;AI q;have lb:b<s1.heap.objs.size:=let ⟨_,q,_⟩:=pb;AI q;refine nj_ (show s1.heap.IsTuple a as.toArray from pa) (show s1.heap.IsTuple b bs.toArray from pb) fun h' hz hTI hTO h1 h2 hk=> ?_;refine wpAny_pyIter_zip hz ?_;refine⟨_,[_,_,_,_,_],_,_,H1,rfl,I1.kept (t':=s1.toks) hk,lw_ (zipApart_new la lb),⟨hz,hTI,⟨_,_,hTO⟩,h1,h2⟩,fun c hc=> ?_,q⟩;have fr:∀c,s1.heap.objs.size<=c->ip_ X pins H1 c:=fun c z=>I1.fpOk z (I1.hok.fresh z);simp only [AJ,As,Bo] at hc;rcases hc with rfl|rfl|rfl|rfl|rfl<;>exact fr _ (by lia)
end
theorem oD_ {K:W.Frag}{a b:Addr}{xs ys:List V}{g:TG}{tb:TS}{D:Ends}{σ:St}{H:Hp} (hn:xs.length=ys.length) (Pv:Nat->St->Hp->Prop) (h0:Pv 0 σ H) (hl:∀i σ H,i<=xs.length->Pv i σ H->SqT K H a xs/\SqT K H b ys)
  (hs:∀i x y σ H p,xs[i]? =some x->ys[i]? =some y->Pv i σ H->H p=none->g (.ref p) σ (upd H p (.tup [x,y])) fun σ2 H2=>tb {D with nx:=Pv (i+1),ct:=Pv (i+1),bk:=D.nx} σ2 H2) (hd:∀σ H,Pv xs.length σ H->D.nx σ H):
  ∃Wq:Nat->Nat->St->Hp->Prop,(∃m,Wq 0 m σ H)/\∀i m σ H,Wq i m σ H->
   ((ItzT K a b).stop i H/\D.nx σ H)\/((ItzT K a b).go i H/\∃N:St->Hp->Prop,(∀σ' H',N σ' H'->∃m',m'<m/\Wq (i+1) m' σ' H')/\∀x H',(ItzT K a b).yld i H x H'->g x σ H' fun σ2 H2=>tb {D with nx:=N,ct:=N,bk:=D.nx} σ2 H2):=by
 refine⟨fun i m σ H=>m=xs.length-i/\i<=xs.length/\Pv i σ H,⟨xs.length,by simp,AM _,h0⟩, ?_⟩;rintro i m σ H ⟨rfl,hi,p⟩;obtain⟨qa,qb⟩:=hl i σ H hi p;by_cases hlt:i<xs.length
 .have ly:i<ys.length:=by lia
  refine .inr ⟨⟨xs,xs[i],ys,ys[i],qa,qb,by simp [hlt],by simp [ly]⟩,Pv (i+1),fun σ' H' p'=>⟨xs.length-(i+1),by lia,rfl,hlt,p'⟩,fun v H' z=> ?_⟩;obtain⟨x,y,pp,e1,e2,e3,e4,e5⟩:=z;subst e3 e5;exact hs i x y σ H pp (e1 xs qa) (e2 ys qb) p e4
 .obtain rfl:i=xs.length:=by lia
  exact .inl ⟨⟨xs,qa,AA _⟩,hd σ H p⟩
def tt_ (K:W.Frag) (ta:TE):TE:=fun σ H Q=>ta σ H fun x H1=>∃p xs,x= .ref p/\SqL K H1 p xs/\Q (.bl xs.isEmpty) H1
theorem qc_ {X:Cx}{a:Expr}{ta:TE}{pos:Pos} (ha:PE X a ta):PE X (.UnaryOp .Not a pos) (tt_ X.K ta):=by
 intro pins s σ H Q I h;refine UnaryOp_ (thn (ha pins s σ H _ I h) fun v s1 ⟨x,H1,I1,r1,q1⟩=> ?_);obtain⟨p,xs,rfl,hx,q⟩:=q1;cases r1;obtain⟨its,r,pl,hz⟩:=I1.list hx;have hlen:=r.length;have hn:=fH_;exact not_of (wpAny_truthy_list pl.isList (by simp only [AE];lia) ⟨.bl xs.isEmpty,H1,I1.tok _,by rw [k0_ r,Bool.not_not];rfl,q⟩)
end L2
namespace Mine
open PySem L2 PyProof.Rows
def top (i:Nat):Stmt:=PySem.Challenge.pw_floorcurves_k50_table_of_counts.main.body.getD i (.Pass ⟨0,0,0,0⟩)
abbrev dR_:Stmt:=top 9
theorem iD_:FnScope ["thing"] ["thing"] (af_ dR_):=⟨rfl,rfl,rfl,by ac_nf,rfl,by ac_nf,by ac_nf⟩
abbrev bZ_:Stmt:=top 10
theorem eF_:FnScope ["thing","least","greatest"] ["thing","least","greatest"] (af_ bZ_):=⟨rfl,rfl,rfl,by ac_nf,rfl,by ac_nf,by ac_nf⟩
abbrev c8_:Stmt:=top 11
theorem g9_:FnScope ["d","k"] ["d","k"] (af_ c8_):=⟨rfl,rfl,rfl,by ac_nf,rfl,by ac_nf,by ac_nf⟩
abbrev cd_:Stmt:=top 12
theorem fi_:FnScope ["d"] ["d"] (af_ cd_):=⟨rfl,rfl,rfl,by ac_nf,rfl,by ac_nf,by ac_nf⟩
abbrev f0_:Stmt:=top 14
theorem dv_:FnScope ["number","chosen","found","place"] ["number","chosen"] (af_ f0_):=⟨rfl,rfl,rfl,by ac_nf,rfl,by ac_nf,by ac_nf⟩
abbrev fZ_:Stmt:=top 16
theorem hc_:FnScope ["thing","number"] ["thing"] (af_ fZ_):=⟨rfl,rfl,rfl,by ac_nf,rfl,by ac_nf,by ac_nf⟩
abbrev bu_:Stmt:=top 17
theorem dt_:FnScope ["row"] ["row"] (af_ bu_):=⟨rfl,rfl,rfl,by ac_nf,rfl,by ac_nf,by ac_nf⟩
abbrev c9_:Stmt:=top 18
theorem ha_:FnScope ["d","held","free"] ["d","held","free"] (af_ c9_):=⟨rfl,rfl,rfl,by ac_nf,rfl,by ac_nf,by ac_nf⟩
abbrev c7_:Stmt:=top 20
theorem g8_:FnScope ["numbers","place","more"] ["numbers","place","more"] (af_ c7_):=⟨rfl,rfl,rfl,by ac_nf,rfl,by ac_nf,by ac_nf⟩
abbrev cv_:Stmt:=top 21
theorem bG_:FnScope ["numbers","product","number"] ["numbers"] (af_ cv_):=⟨rfl,rfl,rfl,by ac_nf,rfl,by ac_nf,by ac_nf⟩
abbrev da_:Stmt:=top 23
theorem hd_:FnScope ["row","length"] ["row","length"] (af_ da_):=⟨rfl,rfl,rfl,by ac_nf,rfl,by ac_nf,by ac_nf⟩
abbrev bI_:Stmt:=top 24
theorem aX_:FnScope ["row","found","number","longer","begun"] ["row"] (af_ bI_):=⟨rfl,rfl,rfl,by ac_nf,rfl,by ac_nf,by ac_nf⟩
abbrev cb_:Stmt:=top 25
theorem br_:FnScope ["row","weight","first","missing","found","place"] ["row","weight","first"] (af_ cb_):=⟨rfl,rfl,rfl,by ac_nf,rfl,by ac_nf,by ac_nf⟩
abbrev eK_:Stmt:=top 26
theorem b5_:FnScope ["row","chosen","product","number","part"] ["row","chosen"] (af_ eK_):=⟨rfl,rfl,rfl,by ac_nf,rfl,by ac_nf,by ac_nf⟩
abbrev bz_:Stmt:=top 27
theorem a4_:FnScope ["row","fuller","found","place","number"] ["row","fuller"] (af_ bz_):=⟨rfl,rfl,rfl,by ac_nf,rfl,by ac_nf,by ac_nf⟩
abbrev bO_:Stmt:=top 28
theorem aT_:FnScope ["d","k","held","free","found","place","number","lesser"] ["d","k","held","free"] (af_ bO_):=⟨rfl,rfl,rfl,by ac_nf,rfl,by ac_nf,by ac_nf⟩
abbrev aR_:Stmt:=top 29
theorem ax_:FnScope ["d","k","held","free","found","kept","freed","lesser"] ["d","k","held","free"] (af_ aR_):=⟨rfl,rfl,rfl,by ac_nf,rfl,by ac_nf,by ac_nf⟩
abbrev dQ_:Stmt:=top 30
theorem bM_:FnScope ["asked","d","k","held","free"] ["asked"] (af_ dQ_):=⟨rfl,rfl,rfl,by ac_nf,rfl,by ac_nf,by ac_nf⟩
abbrev eJ_:Stmt:=top 31
theorem bL_:FnScope ["asked","known","total","number","weights","lesser"] ["asked","known"] (af_ eJ_):=⟨rfl,rfl,rfl,by ac_nf,rfl,by ac_nf,by ac_nf⟩
abbrev dT_:Stmt:=top 32
theorem iF_:FnScope ["d","k","held","free"] ["d","k","held","free"] (af_ dT_):=⟨rfl,rfl,rfl,by ac_nf,rfl,by ac_nf,by ac_nf⟩
abbrev eL_:Stmt:=top 33
theorem kL_:FnScope ["d","k","held","free"] ["d","k","held","free"] (af_ eL_):=⟨rfl,rfl,rfl,by ac_nf,rfl,by ac_nf,by ac_nf⟩
abbrev bA_:Stmt:=top 35
theorem dP_:FnScope ["d","k"] ["d","k"] (af_ bA_):=⟨rfl,rfl,rfl,by ac_nf,rfl,by ac_nf,by ac_nf⟩
abbrev dc_:Stmt:=top 36
theorem he_:FnScope ["d","k"] ["d","k"] (af_ dc_):=⟨rfl,rfl,rfl,by ac_nf,rfl,by ac_nf,by ac_nf⟩
abbrev cu_:Stmt:=top 37
theorem bF_:FnScope ["d","found","e","k"] ["d"] (af_ cu_):=⟨rfl,rfl,rfl,by ac_nf,rfl,by ac_nf,by ac_nf⟩
abbrev dd_:Stmt:=top 38
theorem a9_:FnScope ["table","greatest","found","d","s","number"] ["table","greatest"] (af_ dd_):=⟨rfl,rfl,rfl,by ac_nf,rfl,by ac_nf,by ac_nf⟩
abbrev dU_:Stmt:=top 39
theorem b9_:FnScope ["numbers","found","d","s"] ["numbers"] (af_ dU_):=⟨rfl,rfl,rfl,by ac_nf,rfl,by ac_nf,by ac_nf⟩
abbrev bn_:Stmt:=top 40
theorem ds_:FnScope ["d"] ["d"] (af_ bn_):=⟨rfl,rfl,rfl,by ac_nf,rfl,by ac_nf,by ac_nf⟩
abbrev eI_:Stmt:=top 42
theorem b4_:FnScope ["d","drawing","ends","i","j","w"] ["d","drawing"] (af_ eI_):=⟨rfl,rfl,rfl,by ac_nf,rfl,by ac_nf,by ac_nf⟩
abbrev iH_:Stmt:=top 43
theorem nW_:FnScope ["d","drawing"] ["d","drawing"] (af_ iH_):=⟨rfl,rfl,rfl,by ac_nf,rfl,by ac_nf,by ac_nf⟩
abbrev lL_:Stmt:=top 44
theorem p2_:FnScope ["lift"] ["lift"] (af_ lL_):=⟨rfl,rfl,rfl,by ac_nf,rfl,by ac_nf,by ac_nf⟩
abbrev cx_:Stmt:=top 45
theorem bH_:FnScope ["d","floor","weight","spare","found","j","w"] ["d","floor","weight","spare"] (af_ cx_):=⟨rfl,rfl,rfl,by ac_nf,rfl,by ac_nf,by ac_nf⟩
abbrev eH_:Stmt:=top 46
theorem b3_:FnScope ["lifts","weight","spare","found","place","lift","rest"] ["lifts","weight","spare"] (af_ eH_):=⟨rfl,rfl,rfl,by ac_nf,rfl,by ac_nf,by ac_nf⟩
abbrev bt_:Stmt:=top 47
theorem a3_:FnScope ["d","floor","drawing","spare","there","found","lifts","ends","left"] ["d","floor","drawing","spare"] (af_ bt_):=⟨rfl,rfl,rfl,by ac_nf,rfl,by ac_nf,by ac_nf⟩
abbrev cO_:Stmt:=top 48
theorem a8_:FnScope ["d","k","begun","floor","longer","drawing","spare"] ["d","k"] (af_ cO_):=⟨rfl,rfl,rfl,by ac_nf,rfl,by ac_nf,by ac_nf⟩
abbrev iG_:Stmt:=top 49
theorem es_:FnScope ["drawing","product","lift"] ["drawing"] (af_ iG_):=⟨rfl,rfl,rfl,by ac_nf,rfl,by ac_nf,by ac_nf⟩
abbrev cw_:Stmt:=top 51
theorem fY_:FnScope ["d","drawing"] ["d","drawing"] (af_ cw_):=⟨rfl,rfl,rfl,by ac_nf,rfl,by ac_nf,by ac_nf⟩
abbrev db_:Stmt:=top 52
theorem bU_:FnScope ["d","drawing","found","place","number"] ["d","drawing"] (af_ db_):=⟨rfl,rfl,rfl,by ac_nf,rfl,by ac_nf,by ac_nf⟩
abbrev cc_:Stmt:=top 53
theorem aY_:FnScope ["numbers","first","last","alike","found","here","choices","fuller","others"] ["numbers","first","last","alike"] (af_ cc_):=⟨rfl,rfl,rfl,by ac_nf,rfl,by ac_nf,by ac_nf⟩
abbrev bo_:Stmt:=top 54
theorem av_:FnScope ["d","marks","known","mark","fuller","numbers","further","choices"] ["d","marks"] (af_ bo_):=⟨rfl,rfl,rfl,by ac_nf,rfl,by ac_nf,by ac_nf⟩
abbrev dS_:Stmt:=top 55
theorem iE_:FnScope ["d","drawing"] ["d","drawing"] (af_ dS_):=⟨rfl,rfl,rfl,by ac_nf,rfl,by ac_nf,by ac_nf⟩
abbrev a6_:Stmt:=top 56
theorem du_:FnScope ["d","k"] ["d","k"] (af_ a6_):=⟨rfl,rfl,rfl,by ac_nf,rfl,by ac_nf,by ac_nf⟩
abbrev b1_:Stmt:=top 58
theorem eG_:FnScope ["_law_script","_law_k"] ["_law_script","_law_k"] (af_ b1_):=⟨rfl,rfl,rfl,by ac_nf,rfl,by ac_nf,by ac_nf⟩
abbrev cy_:Stmt:=top 59
theorem a5_:FnScope ["_law_cell","_law_x","_law_found","_law_k"] ["_law_cell"] (af_ cy_):=⟨rfl,rfl,rfl,by ac_nf,rfl,by ac_nf,by ac_nf⟩
abbrev cz_:Stmt:=top 60
theorem dw_:FnScope ["_law_rest","_law_m","_law_digit_here"] ["_law_rest","_law_m"] (af_ cz_):=⟨rfl,rfl,rfl,by ac_nf,rfl,by ac_nf,by ac_nf⟩
abbrev dW_:Stmt:=top 61
theorem bN_:FnScope ["_law_most","_law_found","_law_d","_law_s","_law_k"] ["_law_most"] (af_ dW_):=⟨rfl,rfl,rfl,by ac_nf,rfl,by ac_nf,by ac_nf⟩
abbrev bc_:Stmt:=top 62
theorem ck_:FnScope ["_law_told","_law_due_here","_law_row"] ["_law_told","_law_due_here"] (af_ bc_):=⟨rfl,rfl,rfl,by ac_nf,rfl,by ac_nf,by ac_nf⟩
abbrev dV_:Stmt:=top 63
theorem ca_:FnScope ["_law_cell","_law_rest","_law_way","_law_far"] ["_law_cell"] (af_ dV_):=⟨rfl,rfl,rfl,by ac_nf,rfl,by ac_nf,by ac_nf⟩
abbrev b0_:Stmt:=top 64
theorem ct_:FnScope ["_law_d","e"] ["_law_d"] (af_ b0_):=⟨rfl,rfl,rfl,by ac_nf,rfl,by ac_nf,by ac_nf⟩
abbrev p3_:Stmt:=top 65
theorem hb_:FnScope ["_law_script","_law_rest","_law_d","_law_due_here","_law_told"] ["_law_script"] (af_ p3_):=⟨rfl,rfl,rfl,by ac_nf,rfl,by ac_nf,by ac_nf⟩
set_option genInjectivity false
set_option genSizeOfSpec false
structure Fb (K:W.Frag) (mg:Str->Option Value) (n:Str) (st:Stmt) (ps:List Str) (f:Addr) (d:FuncData):Prop where
 F:Fun K n n st f d
 B:li_ K d ps []
 m:mg n=some (.ref f)
structure Fns (K:W.Frag) (mg:Str->Option Value) where
 f0:Addr
 d0:FuncData
 f1:Addr
 d1:FuncData
 f2:Addr
 d2:FuncData
 f3:Addr
 d3:FuncData
 f4:Addr
 d4:FuncData
 f5:Addr
 d5:FuncData
 f6:Addr
 d6:FuncData
 f7:Addr
 d7:FuncData
 f8:Addr
 d8:FuncData
 f9:Addr
 d9:FuncData
 f10:Addr
 d10:FuncData
 f11:Addr
 d11:FuncData
 f12:Addr
 d12:FuncData
 f13:Addr
 d13:FuncData
 f14:Addr
 d14:FuncData
 f15:Addr
 d15:FuncData
 f16:Addr
 d16:FuncData
 f17:Addr
 d17:FuncData
 f18:Addr
 d18:FuncData
 f19:Addr
 d19:FuncData
 f20:Addr
 d20:FuncData
 f21:Addr
 d21:FuncData
 f22:Addr
 d22:FuncData
 f23:Addr
 d23:FuncData
 f24:Addr
 d24:FuncData
 f25:Addr
 d25:FuncData
 f26:Addr
 d26:FuncData
 f27:Addr
 d27:FuncData
 f28:Addr
 d28:FuncData
 f29:Addr
 d29:FuncData
 f30:Addr
 d30:FuncData
 f31:Addr
 d31:FuncData
 f32:Addr
 d32:FuncData
 f33:Addr
 d33:FuncData
 f34:Addr
 d34:FuncData
 f35:Addr
 d35:FuncData
 f36:Addr
 d36:FuncData
 f37:Addr
 d37:FuncData
 f38:Addr
 d38:FuncData
 f39:Addr
 d39:FuncData
 f40:Addr
 d40:FuncData
 f41:Addr
 d41:FuncData
 f42:Addr
 d42:FuncData
 f43:Addr
 d43:FuncData
 f44:Addr
 d44:FuncData
 f45:Addr
 d45:FuncData
 f46:Addr
 d46:FuncData
 f47:Addr
 d47:FuncData
 f48:Addr
 d48:FuncData
 X0:Fb K mg "is_whole" dR_ ["thing"] f0 d0
 X1:Fb K mg "need_between" bZ_ ["thing","least","greatest"] f1 d1
 X2:Fb K mg "need_wide" c8_ ["d","k"] f2 d2
 X3:Fb K mg "need_degree" cd_ ["d"] f3 d3
 X4:Fb K mg "choose" f0_ ["number","chosen"] f4 d4
 X5:Fb K mg "is_row" fZ_ ["thing"] f5 d5
 X6:Fb K mg "row_weight" bu_ ["row"] f6 d6
 X7:Fb K mg "need_rows" c9_ ["d","held","free"] f7 d7
 X8:Fb K mg "with_more" c7_ ["numbers","place","more"] f8 d8
 X9:Fb K mg "product_of" cv_ ["numbers"] f9 d9
 X10:Fb K mg "filled_up" da_ ["row","length"] f10 d10
 X11:Fb K mg "rows_within" bI_ ["row"] f11 d11
 X12:Fb K mg "rows_beyond" cb_ ["row","weight","first"] f12 d12
 X13:Fb K mg "choices" eK_ ["row","chosen"] f13 d13
 X14:Fb K mg "weights_gained" bz_ ["row","fuller"] f14 d14
 X15:Fb K mg "with_one_held" bO_ ["d","k","held","free"] f15 d15
 X16:Fb K mg "with_one_degree_fewer" aR_ ["d","k","held","free"] f16 d16
 X17:Fb K mg "summands" dQ_ ["asked"] f17 d17
 X18:Fb K mg "counted" eJ_ ["asked","known"] f18 d18
 X19:Fb K mg "asked_of" dT_ ["d","k","held","free"] f19 d19
 X20:Fb K mg "by_ends" eL_ ["d","k","held","free"] f20 d20
 X21:Fb K mg "points_through" bA_ ["d","k"] f21 d21
 X22:Fb K mg "count_row" dc_ ["d","k"] f22 d22
 X23:Fb K mg "rows_up_to" cu_ ["d"] f23 d23
 X24:Fb K mg "by_degree" dd_ ["table","greatest"] f24 d24
 X25:Fb K mg "as_table" dU_ ["numbers"] f25 d25
 X26:Fb K mg "table_of_counts" bn_ ["d"] f26 d26
 X27:Fb K mg "ends_at" eI_ ["d","drawing"] f27 d27
 X28:Fb K mg "sound" iH_ ["d","drawing"] f28 d28
 X29:Fb K mg "lost" lL_ ["lift"] f29 d29
 X30:Fb K mg "lifts_from" cx_ ["d","floor","weight","spare"] f30 d30
 X31:Fb K mg "leaving" eH_ ["lifts","weight","spare"] f31 d31
 X32:Fb K mg "with_floor" bt_ ["d","floor","drawing","spare"] f32 d32
 X33:Fb K mg "drawings" cO_ ["d","k"] f33 d33
 X34:Fb K mg "worth" iG_ ["drawing"] f34 d34
 X35:Fb K mg "need_sound" cw_ ["d","drawing"] f35 d35
 X36:Fb K mg "end_marks" db_ ["d","drawing"] f36 d36
 X37:Fb K mg "put_between" cc_ ["numbers","first","last","alike"] f37 d37
 X38:Fb K mg "how_many_orders" bo_ ["d","marks"] f38 d38
 X39:Fb K mg "how_many" dS_ ["d","drawing"] f39 d39
 X40:Fb K mg "count_by_floors" a6_ ["d","k"] f40 d40
 X41:Fb K mg "_law_cell_at" b1_ ["_law_script","_law_k"] f41 d41
 X42:Fb K mg "_law_great" cy_ ["_law_cell"] f42 d42
 X43:Fb K mg "_law_digit" cz_ ["_law_rest","_law_m"] f43 d43
 X44:Fb K mg "_law_due" dW_ ["_law_most"] f44 d44
 X45:Fb K mg "_law_is_table" bc_ ["_law_told","_law_due_here"] f45 d45
 X46:Fb K mg "_law_odd" dV_ ["_law_cell"] f46 d46
 X47:Fb K mg "_law_refused" b0_ ["_law_d"] f47 d47
 X48:Fb K mg "law" p3_ ["_law_script"] f48 d48
 n_isinstance:mg "isinstance"=none
 n_int:mg "int"=none
 n_bool:mg "bool"=none
 n_range:mg "range"=none
 n_list:mg "list"=none
 n_sum:mg "sum"=none
 n_enumerate:mg "enumerate"=none
 n_tuple:mg "tuple"=none
 n_len:mg "len"=none
 n_min:mg "min"=none
 n_zip:mg "zip"=none
 n_sorted:mg "sorted"=none
 n_set:mg "set"=none
 n_any:mg "any"=none
 n_ValueError:mg "ValueError"=none
 a_WIDE:Addr
 m_WIDE:mg "WIDE"=some (.ref a_WIDE)
 D_WIDE:km_ K a_WIDE [(1,6),(2,6),(3,6),(4,6),(5,3)]=true
 c_NoBound:Addr
 m_NoBound:mg "NoBound"=some (.ref c_NoBound)
 c_NoEnds:Addr
 m_NoEnds:mg "NoEnds"=some (.ref c_NoEnds)
 c_NoDrawing:Addr
 m_NoDrawing:mg "NoDrawing"=some (.ref c_NoDrawing)
 c_CurveError:Addr
 m_CurveError:mg "CurveError"=some (.ref c_CurveError)
 c_NoNumber:Addr
 m_NoNumber:mg "NoNumber"=some (.ref c_NoNumber)
 c_NoText:Addr
 m_NoText:mg "NoText"=some (.ref c_NoText)
 x_NoBound:W.excIn K c_NoBound bmV "ValueError.__new__"=true
 X_NoBound:XC K c_NoBound
 x_NoEnds:W.excIn K c_NoEnds bmV "ValueError.__new__"=true
 X_NoEnds:XC K c_NoEnds
 x_NoDrawing:W.excIn K c_NoDrawing bmV "ValueError.__new__"=true
 X_NoDrawing:XC K c_NoDrawing
 e_NoBound_CurveError:W.exmOne K (.ref c_NoBound) (.ref c_CurveError)=some true
 e_NoEnds_CurveError:W.exmOne K (.ref c_NoEnds) (.ref c_CurveError)=some true
 e_NoDrawing_CurveError:W.exmOne K (.ref c_NoDrawing) (.ref c_CurveError)=some true
 k_NoBound_NoBound:W.kitOne K (.ref c_NoBound) (.ref c_NoBound)=some true
 k_NoBound_ValueError:W.kitOne K (.ref c_NoBound) (.type "ValueError")=some true
 k_NoEnds_NoBound:W.kitOne K (.ref c_NoEnds) (.ref c_NoBound)=some false
 k_NoEnds_ValueError:W.kitOne K (.ref c_NoEnds) (.type "ValueError")=some true
 k_NoDrawing_NoBound:W.kitOne K (.ref c_NoDrawing) (.ref c_NoBound)=some false
 k_NoDrawing_ValueError:W.kitOne K (.ref c_NoDrawing) (.type "ValueError")=some true
 ks_NoBound_0:W.kitAny K (.ref c_NoBound) [(.ref c_NoDrawing),(.ref c_NoEnds),(.ref c_NoNumber),(.ref c_NoText)]=some false
 ks_NoEnds_1:W.kitAny K (.ref c_NoEnds) [(.ref c_NoDrawing),(.ref c_NoEnds),(.ref c_NoNumber),(.ref c_NoText)]=some true
 ks_NoDrawing_2:W.kitAny K (.ref c_NoDrawing) [(.ref c_NoDrawing),(.ref c_NoEnds),(.ref c_NoNumber),(.ref c_NoText)]=some true
abbrev Lf:=Int×Int×Int
def d5_ (e:List Int) (p:Lf):List Int:=(e.set (p.1-1).toNat (e.getD (p.1-1).toNat 0-p.2.2)).set (p.2.1-1).toNat ((e.set (p.1-1).toNat (e.getD (p.1-1).toNat 0-p.2.2)).getD (p.2.1-1).toNat 0+p.2.2)
def bx_ (n:Nat) (ps:List Lf):List Int:=ps.foldl d5_ (List.replicate n 1)
def fm_ (ps:List Lf) (f:Int):Int:=((ps.filter fun p=>decide (p.2.1=f)).map (·.2.2)).sum
def c2_ (ps:List Lf) (f:Int):Int:=((ps.filter fun p=>decide (p.1=f)).map (·.2.2)).sum
def Okl (n:Nat) (p:Lf):Prop:=1<=p.1/\p.1<=n/\1<=p.2.1/\p.2.1<=n
theorem gJ_ {l:List Int}{i j:Nat}{v:Int} (h:i<l.length):(l.set i v).getD j 0=if i=j then v else l.getD j 0:=by
 rw [List.getD,List.getElem?_set];by_cases e:i=j
 .subst e;rw [A7 rfl,A7 rfl,A7 h];rfl
 .rw [A5 e,A5 e];rfl
theorem my_ {e:List Int}{p:Lf}:(d5_ e p).length=e.length:=by unfold d5_;rw [Bn,Bn]
theorem oo_ {n:Nat}{e:List Int}{p:Lf} (he:e.length=n) (hp:Okl n p) (i:Nat):(d5_ e p).getD i 0=e.getD i 0+(if p.2.1=1+(i:Int) then p.2.2 else 0)-(if p.1=1+(i:Int) then p.2.2 else 0):=by
 obtain⟨h1,h2,h3,h4⟩:=hp;unfold d5_;have a1:(p.1-1).toNat<e.length:=by lia
 rw [gJ_ (by rw [Bn];lia),gJ_ a1];by_cases c1:(p.2.1-1).toNat=i
 .have d1:p.2.1=1+(i:Int):=by lia
  rw [A7 c1,A7 d1,c1];by_cases c2:(p.1-1).toNat=i
  .have d2:p.1=1+(i:Int):=by lia
   rw [A7 c2,A7 d2,c2];lia
  .have d2:¬p.1=1+(i:Int):=by lia
   rw [A5 c2,A5 d2];lia
 .have d1:¬p.2.1=1+(i:Int):=by lia
  rw [A5 c1,A5 d1,gJ_ a1];by_cases c2:(p.1-1).toNat=i
  .have d2:p.1=1+(i:Int):=by lia
   rw [A7 c2,A7 d2,c2];lia
  .have d2:¬p.1=1+(i:Int):=by lia
   rw [A5 c2,A5 d2];lia
theorem ec_ (p:Lf) (ps:List Lf) (f:Int):fm_ (p::ps) f=(if p.2.1=f then p.2.2 else 0)+fm_ ps f:=by
 unfold fm_;rw [List.filter_cons];by_cases h:p.2.1=f<;>simp [h]
theorem dl_ (p:Lf) (ps:List Lf) (f:Int):c2_ (p::ps) f=(if p.1=f then p.2.2 else 0)+c2_ ps f:=by
 unfold c2_;rw [List.filter_cons];by_cases h:p.1=f<;>simp [h]
theorem gL_ {n:Nat}:∀(ps:List Lf) (e:List Int),e.length=n->(∀p∈ps,Okl n p)->(ps.foldl d5_ e).length=n/\∀i:Nat,(ps.foldl d5_ e).getD i 0=e.getD i 0+fm_ ps (1+(i:Int))-c2_ ps (1+(i:Int))
 |[],e,he,_=>⟨he,fun i=>by simp [fm_,c2_]⟩
 |p::ps,e,he,h=>by
  rw [CD];obtain⟨h1,h2⟩:=gL_ ps (d5_ e p) (by rw [my_];exact he) fun q hq=>h q (by simp [hq]);refine⟨h1,fun i=> ?_⟩;rw [h2 i,oo_ he (h p (by simp)) i,ec_,dl_];lia
theorem eA_ (n:Nat) (ps:List Lf) (h:∀p∈ps,Okl n p):(bx_ n ps).length=n:=(gL_ ps _ (by simp) h).1
def back (xs:List Int):Lf:=(xs.getD 0 0,xs.getD 1 0,xs.getD 2 0)
def gW_ (p:Lf):List Int:=[p.1,p.2.1,p.2.2]
theorem kx_ (p:Lf):back (gW_ p)=p:=rfl
theorem jc_ {ks:List Int}{i:Nat} (h:i<ks.length):(ks.map V.int)[i]? =some (.int (ks.getD i 0)):=by rw [A9,A3 h];simp [List.getD,h]
theorem map_set {l:List Int}{i:Nat}{v:Int}:(l.set i v).map V.int=(l.map V.int).set i (.int v):=by rw [List.map_set]
def lf (p:Lf):D:=tI (gW_ p)
def lfs (ps:List Lf):D:= .l (ps.map lf)
theorem ht_ {H:Hp}{p:Lf}{v:V} (h:Is H (lf p) v):∃a,v= .ref a/\H a=some (.tup [.int p.1, .int p.2.1, .int p.2.2]):=bS_ h
theorem mL_ {H:Hp}{p:Lf}{a:Addr} (h:H a=some (.tup [.int p.1, .int p.2.1, .int p.2.2])):Is H (lf p) (.ref a):=e3_ (xs:=gW_ p) h
theorem jU_ (ps:List Lf):lfs ps= .l ((ps.map gW_).map tI):=by unfold lfs;rw [BX];rfl
def by_ (H H':Hp):Prop:=∀a xs,H a=some (.tup xs)->H' a=some (.tup xs)
theorem by_.of_same {H H':Hp} (s:an_ H H'):by_ H H':=fun a xs e=>s _ _ e
theorem by_.trans {H H' H'':Hp} (s:by_ H H') (t:by_ H' H''):by_ H H'':=fun a xs e=>t _ _ (s _ _ e)
theorem by_.upd {H:Hp}{b:Addr}{zs ys:List V} (hb:H b=some (.lst zs)):by_ H (L2.upd H b (.lst ys)):=fun a xs e=>by
 rw [ak_ (by rintro rfl;rw [hb] at e;cases e)];exact e
theorem j8_ {H H':Hp} (t:by_ H H'):∀{ps:List Lf}{vs:List V},Iss H (ps.map lf) vs->Iss H' (ps.map lf) vs
 |[],_,h=>by rw [bf_ h];exact am_
 |p::ps,_,h=>by
  obtain⟨u,us,rfl,h1,h2⟩:=aw_ h;obtain⟨a,rfl,ha⟩:=ht_ h1;exact ai_ (mL_ (t _ _ ha)) (j8_ t h2)
def ew_ (p q:Lf):Bool:=if p.1=q.1 then(if p.2.1=q.2.1 then decide (p.2.2<q.2.2) else decide (p.2.1<q.2.1)) else decide (p.1<q.1)
def i6_:List Lf->List Lf->Bool
 |_,[]=>false
 |[],_::_=>true
 |x::xs,y::ys=>if x=y then i6_ xs ys else ew_ x y
theorem pr_ {K:W.Frag}{H:Hp}{p q:Lf}{v w:V} (h:Is H (lf p) v) (k:Is H (lf q) w):EqR K H 1 v w (decide (p=q)):=by
 have e:=h.eqr (K:=K) (n:=1) (by simp [lf,tI,gW_,dep,in_]) (by simp [lf,tI,gW_,Kin,lg_]) k;have:eqD (lf p) (lf q)=decide (p=q):=by
  obtain⟨a,b,c⟩:=p;obtain⟨d,e,f⟩:=q;simp [lf,tI,gW_,eqD,ki_,Bool.and_assoc]
 rwa [this] at e
theorem sk_ {K:W.Frag}{H:Hp}{p q:Lf}{v w:V} (h:Is H (lf p) v) (k:Is H (lf q) w):LtR K H 1 v w (ew_ p q):=by
 obtain⟨a,rfl,ha⟩:=ht_ h;obtain⟨b,rfl,hb⟩:=ht_ k;have e:=LtR.tuples (K:=K) (H:=H) (d:=0) (a:=a) (b:=b) (fun j=>if j=0 then decide (p.1=q.1) else if j=1 then decide (p.2.1=q.2.1) else decide (p.2.2=q.2.2)) (fun j=>if j=0 then decide (p.1<q.1) else if j=1 then decide (p.2.1<q.2.1) else decide (p.2.2<q.2.2)) (SqT.of ha) (SqT.of hb) (fun j x y hx hy=> ?_) (fun j x y hx hy _=> ?_)
 .have e2:SeqAt.lex (fun j=>if j=0 then decide (p.1=q.1) else if j=1 then decide (p.2.1=q.2.1) else decide (p.2.2=q.2.2)) (fun j=>if j=0 then decide (p.1<q.1) else if j=1 then decide (p.2.1<q.2.1) else decide (p.2.2<q.2.2)) 3 3 3 0=ew_ p q:=by
   unfold ew_;by_cases e0:p.1=q.1
   .by_cases e1:p.2.1=q.2.1
    .by_cases e2:p.2.2=q.2.2
     .simp [SeqAt.lex,e0,e1,e2]
     .simp [SeqAt.lex,e0,e1,e2]
    .simp [SeqAt.lex,e0,e1]
   .simp [SeqAt.lex,e0]
  exact e2▸e
 .match j,hx,hy with
  |0,hx,hy=>cases hx;cases hy;exact EqR.int 0 _ _
  |1,hx,hy=>cases hx;cases hy;exact EqR.int 0 _ _
  |2,hx,hy=>cases hx;cases hy;exact EqR.int 0 _ _
  |j+3,hx,_=>simp at hx
 .match j,hx,hy with
  |0,hx,hy=>cases hx;cases hy;exact LtR.int 0 _ _
  |1,hx,hy=>cases hx;cases hy;exact LtR.int 0 _ _
  |2,hx,hy=>cases hx;cases hy;exact LtR.int 0 _ _
  |j+3,hx,_=>simp at hx
theorem mB_ (p q:List Lf):∀(k i:Nat),min p.length q.length-i=k->i<=min p.length q.length->SeqAt.lex (fun j=>decide (p.getD j (0,0,0)=q.getD j (0,0,0))) (fun j=>ew_ (p.getD j (0,0,0)) (q.getD j (0,0,0))) p.length q.length k i=i6_ (p.drop i) (q.drop i)
 |0,i,hk,hi=>by
  rw [SeqAt.lex];rcases(by lia:q.length=i\/(p.length=i/\i<q.length)) with e|⟨e,e2⟩
  .rw [List.drop_of_length_le (l:=q) (by lia)];have:¬p.length<q.length:=by lia
   cases p.drop i<;>simp [i6_,this]
  .rw [List.drop_of_length_le (l:=p) (by lia),Bg e2];have:p.length<q.length:=by lia
   simp [i6_,this]
 |k+1,i,hk,hi=>by
  have h1:i<p.length:=by lia
  have h2:i<q.length:=by lia
  have g1:p.getD i (0,0,0)=p[i]:=by simp [List.getD,h1]
  have g2:q.getD i (0,0,0)=q[i]:=by simp [List.getD,h2]
  rw [SeqAt.lex,Bg h1,Bg h2,i6_,g1,g2];by_cases e:p[i]=q[i]
  .rw [A7 (BF e),A7 e];exact mB_ p q k (i+1) (by lia) (by lia)
  .rw [A5 (by simpa using e),A5 e]
theorem mA_ {K:W.Frag}{H:Hp}{p q:List Lf}{vs ws:List V} (h:Iss H (p.map lf) vs) (k:Iss H (q.map lf) ws):
  (∀(j:Nat) x y,vs[j]? =some x->ws[j]? =some y->EqR K H 1 x y (decide (p.getD j (0,0,0)=q.getD j (0,0,0))))/\(∀(j:Nat) x y,vs[j]? =some x->ws[j]? =some y->decide (p.getD j (0,0,0)=q.getD j (0,0,0))=false->LtR K H 1 x y (ew_ (p.getD j (0,0,0)) (q.getD j (0,0,0)))):=by
 have go:∀(j:Nat) x y,vs[j]? =some x->ws[j]? =some y->Is H (lf (p.getD j (0,0,0))) x/\Is H (lf (q.getD j (0,0,0))) y:=fun j x y hx hy=>by
  obtain⟨d,hd,h1⟩:=h.of_get hx;obtain⟨e,he,h2⟩:=k.of_get hy;rw [A9] at hd he;obtain⟨d',hd',rfl⟩:=A4.mp hd;obtain⟨e',he',rfl⟩:=A4.mp he;rw [List.getD,hd',List.getD,he'];exact⟨h1,h2⟩
 exact⟨fun j x y hx hy=>pr_ (go j x y hx hy).1 (go j x y hx hy).2,fun j x y hx hy _=>sk_ (go j x y hx hy).1 (go j x y hx hy).2⟩
theorem q1_ {K:W.Frag}{H:Hp}{p q:List Lf}{v w:V} (h:Is H (lfs p) v) (k:Is H (lfs q) w):Ask K H v w (i6_ p q):=by
 obtain⟨a,vs,rfl,ha,h⟩:=bT_ h;obtain⟨b,ws,rfl,hb,k⟩:=bT_ k;obtain⟨e1,e2⟩:=mA_ (K:=K) h k;refine⟨a,b,vs,ws,1,_,_,rfl,rfl,SqL.of ha,SqL.of hb,by decide,e1,e2, ?_⟩;rw [h.length,k.length,A1,A1,mB_ p q _ 0 (Nat.sub_zero _) (AM _),List.drop_zero,List.drop_zero]
def nw (H0 H:Hp):Hp:=fun b=>match H0 b with|some (.lst _)=>none|_=>H b
theorem bg_ {H0 H:Hp}:an_ (nw H0 H) H:=fun b o e=>by
 unfold nw at e;split at e
 .cases e
 .exact e
theorem dh_ {H0 H H':Hp} (s:an_ H H'):an_ (nw H0 H) (nw H0 H'):=fun b o e=>by
 unfold nw at e⊢;split at e
 .cases e
 .exact s _ _ e
theorem gk_ {H0 H1 H:Hp} (s:an_ H0 H1):an_ (nw H1 H) (nw H0 H):=fun b o e=>by
 unfold nw at e⊢;split at e
 .cases e
 .rename_i h;split
  .rename_i xs h0;exact absurd (s _ _ h0) (h xs)
  .exact e
theorem jM_ {H0 H1 H:Hp}{a:Addr}{xs:List V} (s:an_ H0 H1) (ha:H1 a=some (.lst xs)):an_ (nw H1 H) (hid (nw H0 H) a):=fun b o e=>by
 have hb:b≠a:=by
  rintro rfl;unfold nw at e;rw [ha] at e;cases e
 rw [mS_ hb];exact gk_ s b o e
theorem cH_ {H0 H:Hp}{a:Addr} (h:H0 a=none):nw H0 H a=H a:=by unfold nw;rw [h]
theorem jL_ {H0 H:Hp}{a:Addr}{xs:List V} (s:an_ H0 H) (h:H a=some (.tup xs)):nw H0 H a=some (.tup xs):=by
 unfold nw;split
 .rename_i ys e;rw [s _ _ e] at h;cases h
 .exact h
theorem sf_ {H0 H:Hp}{ps:List Lf}{vs:List V} (s:an_ H0 H) (h:Iss H (ps.map lf) vs):Iss (nw H0 H) (ps.map lf) vs:=j8_ (fun a xs e=>jL_ s e) h
theorem pe_ {H0 H:Hp}{ps:List Lf}{a:Addr} (s:an_ H0 H) (n:H0 a=none) (h:Is H (lfs ps) (.ref a)):Is (nw H0 H) (lfs ps) (.ref a):=by
 obtain⟨_,vs,e,ha,hi⟩:=bT_ h;cases e;exact cq_ (by rw [cH_ n];exact ha) (sf_ s hi)
def Acc (H0 H:Hp) (a:Addr) (xs:List D):Prop:=∃vs,H a=some (.lst vs)/\Iss (hid (nw H0 H) a) xs vs
theorem Acc.start {H0 H:Hp}{a:Addr} (h:H a=some (.lst [])):Acc H0 H a []:=⟨[],h,am_⟩
theorem Acc.mono {H0 H H':Hp}{a:Addr}{xs:List D} (s:an_ H H') (g:Acc H0 H a xs):Acc H0 H' a xs:=let ⟨vs,e,h⟩:=g;⟨vs,s _ _ e,h.mono (dH_ (dh_ s))⟩
theorem fK_ {H0 H:Hp}{a:Addr}{o:HO}:hid (nw H0 (upd H a o)) a=hid (nw H0 H) a:=by
 funext b
 unfold hid;split
 .rfl
 .rename_i h;unfold nw;rw [ak_ h]
theorem Acc.add {H0 H1 H2:Hp}{a:Addr}{xs:List D}{x:D}{vs:List V}{v:V} (s01:an_ H0 H1) (s12:an_ H1 H2) (ha:H1 a=some (.lst vs)) (h:Iss (hid (nw H0 H1) a) xs vs) (k:Is (nw H1 H2) x v):Acc H0 (upd H2 a (.lst (vs++[v]))) a (xs++[x]):=
 ⟨vs++[v],ag_,by rw [fK_];exact(h.mono (dH_ (dh_ s12))).append (ai_ (k.mono (jM_ s01 ha)) am_)⟩
theorem Acc.adds {H0 H1 H2:Hp}{a:Addr}{xs ys:List D}{vs us:List V} (s01:an_ H0 H1) (s12:an_ H1 H2) (ha:H1 a=some (.lst vs)) (h:Iss (hid (nw H0 H1) a) xs vs) (k:Iss (nw H1 H2) ys us):Acc H0 (upd H2 a (.lst (vs++us))) a (xs++ys):=
 ⟨vs++us,ag_,by rw [fK_];exact(h.mono (dH_ (dh_ s12))).append (k.mono (jM_ s01 ha))⟩
theorem Acc.is {H0 H:Hp}{a:Addr}{xs:List D} (n:H0 a=none) (g:Acc H0 H a xs):Is (nw H0 H) (.l xs) (.ref a):=let ⟨_,e,h⟩:=g;cq_ (by rw [cH_ n];exact e) (h.mono oy_)
def bK_ (p:Lf):Int:=(p.2.1-p.1)*p.2.2-1
def nC_ (f j:Int) (n:Nat) (sp:Int):List Lf:=((List.range n).map fun w:Nat=>((f,j,1+(w:Int)):Lf)).filter fun p=>decide (bK_ p<=sp)
def kY_ (f:Int) (m n:Nat) (sp:Int):List Lf:=(List.range m).flatMap fun i:Nat=>nC_ f (f+1+(i:Int)) n sp
def cU_:Nat->List Lf->Int->Int->List (List Lf)
 |0,_,_,_=>[[]]
 |n+1,ls,wt,sp=>[[]]++(List.range ls.length).flatMap fun i=>match ls[i]? with
  |none=>[]
  |some p=>if p.2.2<=wt/\bK_ p<=sp then(cU_ n (ls.drop i) (wt-p.2.2) (sp-bK_ p)).map (p:: ·) else []
def d6_ (n:Nat) (ls:List Lf) (wt sp:Int) (i:Nat):List (List Lf):=match ls[i]? with
  |none=>[]
  |some p=>if p.2.2<=wt/\bK_ p<=sp then(cU_ n (ls.drop i) (wt-p.2.2) (sp-bK_ p)).map (p:: ·) else []
theorem eX_ (n:Nat) (ls:List Lf) (wt sp:Int):cU_ (n+1) ls wt sp=[[]]++(List.range ls.length).flatMap (d6_ n ls wt sp):=rfl
def thF (d f:Nat) (ps:List Lf):Int:=(bx_ d ps).getD (f-1) 0
def gy_ (d f:Nat) (th sp:Int) (ls:List Lf):Int:=sp-(ls.map bK_).sum-(th-(ls.map (·.2.2)).sum)*((d:Int)-(f:Int))
def qv_ (d f:Nat) (th sp:Int):List (List Lf):=cU_ 8 (kY_ f (d-f) th.toNat sp) th sp
def eC_ (d f:Nat) (ps:List Lf) (sp:Int):List (List Lf×Int):=((qv_ d f (thF d f ps) sp).filter fun ls=>decide (0<=gy_ d f (thF d f ps) sp ls)).map fun ls=>(ps++ls,gy_ d f (thF d f ps) sp ls)
def fq_ (d:Nat) (k:Int):Nat->List (List Lf×Int)
 |0=>[([],k)]
 |f+1=>(fq_ d k f).flatMap fun x=>eC_ d (f+1) x.1 x.2
def eu_ (d k:Nat):List (List Lf):=((fq_ d k d).filter fun x=>decide (x.2=0)).map (·.1)
def sa_ (d:Nat) (p:Lf):Bool:=decide (1<=p.1)&&decide (p.1<p.2.1)&&decide (p.2.1<=d)&&decide (1<=p.2.2)&&decide (p.2.2<=8)
def stB (d f:Nat) (x:List Lf×Int):Bool:=x.1.all (sa_ d)&&decide (x.1.length<=20)&&decide (0<=thF d (f+1) x.1)&&decide (thF d (f+1) x.1<8)&&decide (0<=x.2)&&decide (x.2<=6)&&decide ((qv_ d (f+1) (thF d (f+1) x.1) x.2).length<=200)
def okB (d k:Nat):Bool:=(List.range d).all (fun f=>(fq_ d k f).all (stB d f)&&decide ((fq_ d k (f+1)).length<=900))&&(fq_ d k d).all fun x=>decide (x.1.length<=20)
def Wide (d k:Nat):Prop:=1<=d/\((d<=4/\k<=6)\/(d=5/\k<=3))
theorem hB_ (f j:Int) (n:Nat) (sp:Int):nC_ f j (n+1) sp=nC_ f j n sp++(if bK_ (f,j,1+(n:Int))<=sp then [(f,j,1+(n:Int))] else []):=by
 unfold nC_;rw [Au,AG,Cc];by_cases h:bK_ (f,j,1+(n:Int))<=sp<;>simp [h]
theorem hC_ (f:Int) (m n:Nat) (sp:Int):kY_ f (m+1) n sp=kY_ f m n sp++nC_ f (f+1+(m:Int)) n sp:=by
 unfold kY_;rw [Au,B0];simp
theorem jV_ (f j:Int) (n:Nat) (sp:Int):(nC_ f j n sp).length<=n:=by
 unfold nC_;exact B6 (List.length_filter_le _ _) (by simp)
theorem gx_ (f:Int) (n:Nat) (sp:Int):∀m,(kY_ f m n sp).length<=m*n
 |0=>by simp [kY_]
 |m+1=>by
  rw [hC_,AC,CP];have:=gx_ f n sp m;have:=jV_ f (f+1+(m:Int)) n sp;lia
theorem i7_ {f:Int}{m n:Nat}{sp:Int}{p:Lf} (h:p∈kY_ f m n sp):p.1=f/\f<p.2.1/\p.2.1<=f+m/\1<=p.2.2/\p.2.2<=n:=by
 unfold kY_ nC_ at h;simp only [At,AV,List.mem_filter,Af] at h;obtain⟨i,hi,⟨w,hw,rfl⟩,_⟩:=h;refine⟨rfl, ?_, ?_, ?_, ?_⟩
 .show f<f+1+(i:Int);lia
 .show f+1+(i:Int)<=f+m;lia
 .show 1<=1+(w:Int);lia
 .show 1+(w:Int)<=n;lia
theorem bk_ {α:Type} (g:Nat->List α) (i:Nat):(List.range (i+1)).flatMap g=(List.range i).flatMap g++g i:=by
 rw [Au,B0];simp
theorem f6_ {α:Type} (g:Nat->List α):∀{m i:Nat},i<m->((List.range i).flatMap g).length+(g i).length<=((List.range m).flatMap g).length
 |0,i,h=>absurd h (by lia)
 |m+1,i,h=>by
  rw [bk_,AC];by_cases e:i=m
  .rw [e];exact AA _
  .have:=f6_ g (m:=m) (i:=i) (by lia);lia
theorem qA_ {n:Nat}{ls:List Lf}{wt sp:Int}{x:List Lf} (h:x∈cU_ (n+1) ls wt sp):x=[]\/∃(i:Nat) (p:Lf) (r:List Lf),ls[i]? =some p/\p.2.2<=wt/\bK_ p<=sp/\r∈cU_ n (ls.drop i) (wt-p.2.2) (sp-bK_ p)/\x=p::r:=by
 rw [eX_] at h;rcases Bd.mp h with h|h
 .exact .inl (AS.mp h)
 .obtain⟨i,hi,h⟩:=At.mp h;unfold d6_ at h;split at h
  .cases h
  .rename_i p hp;split at h
   .rename_i c;obtain⟨r,hr,rfl⟩:=Af.mp h;exact .inr ⟨i,p,r,hp,c.1,c.2,hr,rfl⟩
   .cases h
theorem eY_:∀{n:Nat}{ls:List Lf}{wt sp:Int}{x:List Lf},(∀p∈ls,1<=p.2.2)->0<=wt->x∈cU_ n ls wt sp->x.length<=n/\0<=(x.map (·.2.2)).sum/\(x.map (·.2.2)).sum<=wt/\∀p∈x,p∈ls
 |0,ls,wt,sp,x,_,h0,h=>by
  rw [cU_] at h;rw [AS.mp h];exact⟨by simp,by simp,by simpa using h0,fun p hp=>nomatch hp⟩
 |n+1,ls,wt,sp,x,hw,h0,h=>by
  rcases qA_ h with rfl|⟨i,p,r,hp,c1,c2,hr,rfl⟩
  .exact⟨by simp,by simp,by simpa using h0,fun p hp=>nomatch hp⟩
  .have pm:=AU hp;have p1:=hw p pm;obtain⟨a,b,c,d⟩:=eY_ (fun q hq=>hw q (D2 hq)) (by lia) hr;refine⟨by rw [AY];lia, ?_, ?_,fun q hq=> ?_⟩
   .rw [AK,Aj];lia
   .rw [AK,Aj];lia
   .rcases AJ.mp hq with rfl|hq
    .exact pm
    .exact D2 (d q hq)
theorem gd_ {d:Nat}{p:Lf}:sa_ d p=true↔1<=p.1/\p.1<p.2.1/\p.2.1<=d/\1<=p.2.2/\p.2.2<=8:=by
 unfold sa_;simp only [AN,B'];constructor
 .rintro⟨⟨⟨⟨a,b⟩,c⟩,d⟩,e⟩;exact⟨a,b,c,d,e⟩
 .rintro⟨a,b,c,d,e⟩;exact⟨⟨⟨⟨a,b⟩,c⟩,d⟩,e⟩
theorem pT_ {d f:Nat}{x:List Lf×Int} (h:stB d f x=true):(∀p∈x.1,sa_ d p=true)/\x.1.length<=20/\0<=thF d (f+1) x.1/\thF d (f+1) x.1<8/\0<=x.2/\x.2<=6/\(qv_ d (f+1) (thF d (f+1) x.1) x.2).length<=200:=by
 unfold stB at h;simp only [AN,B',Al] at h;obtain⟨⟨⟨⟨⟨⟨a,b⟩,c⟩,d⟩,e⟩,f⟩,g⟩:=h;exact⟨a,b,c,d,e,f,g⟩
theorem ql_ {d k:Nat} (h:okB d k=true):(∀f<d,(∀x∈fq_ d k f,stB d f x=true)/\(fq_ d k (f+1)).length<=900)/\∀x∈fq_ d k d,x.1.length<=20:=by
 unfold okB at h;simp only [AN,B',Al,AV] at h;exact h
theorem sl_ (p q:Lf):ltI (gW_ p) (gW_ q)=ew_ p q:=by
 unfold ew_ ltI gW_;simp only [ff_,AY,List.length_nil];split
 .split
  .split
   .rename_i h;simp [h]
   .rfl
  .rfl
 .rfl
def Srt (ps:List Lf):Prop:=ps.Pairwise fun a b=>ew_ b a=false
theorem o0_ {α:Type} (g:α->Int):∀{xs:List α},(∀x∈xs,0<=g x)->0<=(xs.map g).sum
 |[],_=>by simp
 |x::xs,h=>by
  rw [AK,Aj];have:=o0_ g (xs:=xs) fun y hy=>h y (by simp [hy]);have:=h x (by simp);lia
structure Snd (d:Nat) (ps:List Lf):Prop where
 ok:∀p∈ps,1<=p.1/\p.1<p.2.1/\p.2.1<=d/\1<=p.2.2
 nn:∀i:Nat,i<d->0<=1+fm_ ps (1+(i:Int))-c2_ ps (1+(i:Int))
 so:Srt ps
def eF (ps:List Lf) (i:Nat):Int:=1+fm_ ps (1+(i:Int))-c2_ ps (1+(i:Int))
theorem qx_ {p:Lf} (h1:p.1<p.2.1) (h2:1<=p.2.2):0<=bK_ p:=by
 unfold bK_;have:1*1<=(p.2.1-p.1)*p.2.2:=CN (by lia) h2 (by decide) (by lia);lia
def ij_ (d:Nat) (g:Nat->Int) (n:Nat):Int:=((List.range n).map fun i=>g i*((d:Int)-((i+1:Nat):Int))).sum
theorem bs_ (d:Nat) (g:Nat->Int) (n:Nat):ij_ d g (n+1)=ij_ d g n+g n*((d:Int)-((n+1:Nat):Int)):=by
 unfold ij_;rw [Au,AG,C0];simp
theorem iU_ (d:Nat) (j w:Int) (h1:1<=j):∀n:Nat,ij_ d (fun i=>if j=1+(i:Int) then w else 0) n=if j<=n then w*((d:Int)-j) else 0
 |0=>by
  rw [A5 (by lia)];rfl
 |n+1=>by
  rw [bs_,iU_ d j w h1 n];by_cases c:j=1+(n:Int)
  .have c':¬j<=(n:Int):=by lia
   have c2:j<=((n+1:Nat):Int):=by lia
   rw [A7 c,A5 c',A7 c2,c,show(((n+1:Nat):Int))=1+(n:Int) by lia,Int.zero_add]
  .rw [A5 c,Int.zero_mul,Int.add_zero];by_cases c2:j<=(n:Int)
   .rw [A7 c2,A7 (by lia)]
   .rw [A5 c2,A5 (by lia)]
theorem jr_ (d:Nat) (g h:Nat->Int):∀n,ij_ d (fun i=>g i+h i) n=ij_ d g n+ij_ d h n
 |0=>rfl
 |n+1=>by
  rw [bs_,bs_,bs_,jr_ d g h n,Int.add_mul];lia
theorem jq_ (d:Nat) (g h:Nat->Int):∀n,ij_ d (fun i=>g i-h i) n=ij_ d g n-ij_ d h n
 |0=>rfl
 |n+1=>by
  rw [bs_,bs_,bs_,jq_ d g h n,Int.sub_mul];lia
theorem sD_ {d:Nat}:∀{ps:List Lf},(∀p∈ps,1<=p.1/\p.1<p.2.1/\p.2.1<=d/\1<=p.2.2)->ij_ d (eF ps) d+(ps.map bK_).sum+ps.length=ij_ d (fun _=>1) d
 |[],_=>by
  have:eF []=fun _=>1:=by funext i;simp [eF,fm_,c2_]
  rw [this];simp
 |p::ps,h=>by
  have ih:=sD_ (ps:=ps) fun q hq=>h q (by simp [hq]);obtain⟨p1,p2,p3,p4⟩:=h p (by simp);have e:eF (p::ps)=fun i:Nat=>(eF ps i+(if p.2.1=1+(i:Int) then p.2.2 else 0))-(if p.1=1+(i:Int) then p.2.2 else 0):=by
   funext i
   unfold eF;rw [ec_,dl_];lia
  rw [e,jq_ d (fun i:Nat=>eF ps i+(if p.2.1=1+(i:Int) then p.2.2 else 0)),jr_ d (eF ps),iU_ d p.2.1 p.2.2 (by lia),iU_ d p.1 p.2.2 p1,A7 p3,A7 (by lia),AK,Aj,AY];have l:bK_ p=p.2.2*((d:Int)-p.1)-p.2.2*((d:Int)-p.2.1)-1:=by
   unfold bK_;rw [<-Int.mul_sub,Int.mul_comm];congr 2
   lia
  rw [l]
  push_cast
  lia
theorem gO_ {d:Nat}{ps:List Lf} (h:∀p∈ps,Okl d p) {i:Nat} (hi:i<d):(bx_ d ps).getD i 0=eF ps i:=by
 have:=(gL_ ps (List.replicate d 1) (by simp) h).2 i;unfold bx_;rw [this];unfold eF;have:(List.replicate d (1:Int)).getD i 0=1:=by simp [List.getD,hi]
 rw [this]
theorem oB_ {d:Nat} (h1:1<=d) (h5:d<=5):ij_ d (fun _=>1) d=((d*(d-1)/2:Nat):Int):=by
 have:d=1\/d=2\/d=3\/d=4\/d=5:=by lia
 rcases this with rfl|rfl|rfl|rfl|rfl<;>decide
def pE_ (d:Nat) (ps:List Lf):Prop:=(∀p∈ps,1<=p.1/\p.1<p.2.1/\p.2.1<=d/\1<=p.2.2)/\∀i:Nat,i<d->0<=eF ps i
theorem pE_.okl {d:Nat}{ps:List Lf} (h:pE_ d ps):∀p∈ps,Okl d p:=fun p hp=>by
 obtain⟨a,b,c,_⟩:=h.1 p hp;exact⟨a,by lia,by lia,c⟩
theorem fR_ {d:Nat}{g:Nat->Int}:∀{n i:Nat},n<=d->(∀j<n,0<=g j)->i<n->g i*((d:Int)-((i+1:Nat):Int))<=ij_ d g n/\0<=ij_ d g n
 |0,i,_,_,h=>absurd h (by lia)
 |n+1,i,hd,hg,h=>by
  rw [bs_];have a:0<=g n*((d:Int)-((n+1:Nat):Int)):=Bs (hg n (by lia)) (by lia);have b:0<=ij_ d g n:=by
   cases n with
   |zero=>exact Cg _
   |succ n=>exact(fR_ (d:=d) (g:=g) (n:=n+1) (i:=0) (by lia) (fun j hj=>hg j (by lia)) (by lia)).2
  by_cases e:i=n
  .subst e;exact⟨by lia,by lia⟩
  .have:=(fR_ (d:=d) (g:=g) (n:=n) (i:=i) (by lia) (fun j hj=>hg j (by lia)) (by lia)).1;exact⟨by lia,by lia⟩
theorem pE_.len {d:Nat}{ps:List Lf} (h:pE_ d ps) (d1:1<=d) (d5:d<=5):ps.length<=d*(d-1)/2/\d*(d-1)/2<=10/\∀i:Nat,i+1<d->eF ps i<=10:=by
 have a:=sD_ h.1;rw [oB_ d1 d5] at a;have n1:=o0_ bK_ (xs:=ps) fun p hp=>by
  have:=h.1 p hp;exact qx_ this.2.1 this.2.2.2
 have n2:=(fR_ (d:=d) (g:=eF ps) (n:=d) (i:=0) (AA _) h.2 (by lia)).2;have d10:d*(d-1)/2<=10:=by
  have:d=1\/d=2\/d=3\/d=4\/d=5:=by lia
  rcases this with rfl|rfl|rfl|rfl|rfl<;>decide
 refine⟨by lia,d10,fun i hi=> ?_⟩;have b:=(fR_ (d:=d) (g:=eF ps) (n:=d) (i:=i) (AA _) h.2 (by lia)).1;have c:eF ps i*1<=eF ps i*((d:Int)-((i+1:Nat):Int)):=Int.mul_le_mul_of_nonneg_left (by lia) (h.2 i (by lia));lia
def pn_ (x:Lf):List Lf->List Lf
 |[]=>[x]
 |y::ys=>if ew_ x y then x::y::ys else if x=y then y::ys else y::pn_ x ys
def kH_ (xs:List Lf):List Lf:=xs.foldr pn_ []
def k3_ (d:Nat) (es:List Int) (i:Nat):List Lf:=List.replicate (es.getD i 0).toNat (1+(i:Int),(d:Int)+1,1)
def e9_ (d:Nat) (es:List Int):List Lf:=(List.range d).flatMap (k3_ d es)
theorem gr_ {p q:Lf}:ew_ p q=true↔p.1<q.1\/(p.1=q.1/\(p.2.1<q.2.1\/(p.2.1=q.2.1/\p.2.2<q.2.2))):=by
 unfold ew_;by_cases e0:p.1=q.1
 .by_cases e1:p.2.1=q.2.1
  .simp [e0,e1]
  .simp [e0,e1]
 .simp [e0]
theorem gq_ {p:Lf}:¬ew_ p p=true:=by rw [gr_];lia
theorem mx_ {p q r:Lf} (h:ew_ p q=true) (k:ew_ q r=true):ew_ p r=true:=by rw [gr_] at*;lia
theorem jS_ {p q:Lf} (h:¬ew_ p q=true) (k:p≠q):ew_ q p=true:=by
 rw [gr_] at*
 obtain⟨a,b,c⟩:=p;obtain⟨d,e,f⟩:=q;simp only [ne_eq,BM,not_and] at*
 lia
theorem gI_ {x z:Lf}:∀{ys:List Lf},z∈pn_ x ys↔z=x\/z∈ys
 |[]=>by simp [pn_]
 |y::ys=>by
  unfold pn_;split
  .simp
  .split
   .rename_i e;subst e;simp
   .simp [gI_ (ys:=ys)];constructor
    .rintro(h|h|h)
     .exact .inr (.inl h)
     .exact .inl h
     .exact .inr (.inr h)
    .rintro(h|h|h)
     .exact .inr (.inl h)
     .exact .inl h
     .exact .inr (.inr h)
theorem mO_ {x:Lf}:∀{ys:List Lf},(ys.Pairwise fun a b=>ew_ a b=true)->(pn_ x ys).Pairwise fun a b=>ew_ a b=true
 |[],_=>by simp [pn_]
 |y::ys,h=>by
  unfold pn_;split
  .rename_i e;refine List.Pairwise.cons (fun z hz=> ?_) h;rcases AJ.mp hz with rfl|hz
   .exact e
   .exact mx_ e ((CC.mp h).1 z hz)
  .split
   .exact h
   .rename_i e1 e2;refine List.Pairwise.cons (fun z hz=> ?_) (mO_ (CC.mp h).2);rcases gI_.mp hz with rfl|hz
    .exact jS_ e1 e2
    .exact(CC.mp h).1 z hz
theorem fU_ {z:Lf}:∀{xs:List Lf},z∈kH_ xs↔z∈xs
 |[]=>by simp [kH_]
 |x::xs=>by
  have:=fU_ (z:=z) (xs:=xs);unfold kH_ at this⊢;rw [List.foldr_cons,gI_,this,AJ]
theorem iz_:∀(xs:List Lf),(kH_ xs).Pairwise fun a b=>ew_ a b=true
 |[]=>by simp [kH_]
 |x::xs=>by
  have:=iz_ xs;unfold kH_ at this⊢;rw [List.foldr_cons];exact mO_ this
theorem hi_:∀{xs ys:List Lf},(xs.Pairwise fun a b=>ew_ a b=true)->(ys.Pairwise fun a b=>ew_ a b=true)->(∀z,z∈xs↔z∈ys)->xs=ys
 |[],[],_,_,_=>rfl
 |[],y::ys,_,_,h=>absurd ((h y).mpr (by simp)) (by simp)
 |x::xs,[],_,_,h=>absurd ((h x).mp (by simp)) (by simp)
 |x::xs,y::ys,h1,h2,h=>by
  have a1:=CC.mp h1;have a2:=CC.mp h2;have e:x=y:=by
   refine By fun ne=> ?_;have m1:x∈ys:=by rcases AJ.mp ((h x).mp (by simp)) with e|e;exact absurd e ne;exact e
   have m2:y∈xs:=by rcases AJ.mp ((h y).mpr (by simp)) with e|e;exact absurd e.symm ne;exact e
   exact gq_ (mx_ (a1.1 y m2) (a2.1 x m1))
  subst e;have:xs=ys:=hi_ a1.2 a2.2 fun z=>by
   have hz:=h z;rw [AJ,AJ] at hz;constructor
   .intro m;rcases hz.mp (.inr m) with e|e
    .subst e;exact absurd (a1.1 z m) gq_
    .exact e
   .intro m;rcases hz.mpr (.inr m) with e|e
    .subst e;exact absurd (a2.1 z m) gq_
    .exact e
  rw [this]
theorem nZ_ {p q:Lf} (h:gW_ p=gW_ q):p=q:=by rw [<-kx_ p,<-kx_ q,h]
theorem pV_ {ps:List Lf}{yss:List (List Int)} (nd:yss.Nodup) (mem:∀z,z∈yss↔z∈ps.map gW_) (so:∀i j,i<j->j<yss.length->ltI (yss.getD j []) (yss.getD i [])=false):yss=(kH_ ps).map gW_:=by
 obtain⟨qs,e,hq⟩:=dj_ (f:=gW_) (P:=fun p=>p∈ps) yss fun v hv=>by
  obtain⟨p,hp,rfl⟩:=Af.mp ((mem v).mp hv);exact⟨p,hp,rfl⟩
 subst e;have:qs=kH_ ps:=by
  refine hi_ ?_ (iz_ ps) fun z=> ?_
  .rw [Bf];intro i j hi hj hij;have h1:=so i j hij (by rw [A1];exact hj);rw [A8,A8,A9,A9,A3 hi,A3 hj] at h1;simp only [Option.map_some,Option.getD_some] at h1;rw [sl_] at h1;refine jS_ (by rw [h1];simp) fun e=> ?_;unfold List.Nodup at nd;rw [Cn,Bf] at nd;exact nd i j hi hj hij (by rw [e])
  .rw [fU_];constructor
   .exact hq z
   .intro hz;obtain⟨q,hq',e⟩:=Af.mp ((mem (gW_ z)).mpr (List.mem_map_of_mem hz));rw [<-nZ_ e];exact hq'
 rw [this]
def chF (n:Int):Nat->Int
 |0=>1
 |k+1=>chF n k*(n-(k:Int))/((k:Int)+1)
def chB:Bool:=(List.range 16).all fun n=>(List.range (n+1)).all fun k=>decide (0<=chF (n:Int) k)&&decide (chF (n:Int) k<=6435)
theorem sR_:chB=true:=by ac_nf
theorem sQ_ {n:Int}{k:Nat} (h1:(k:Int)<=n) (h2:n<=15):0<=chF n k/\chF n k<=6435:=by
 obtain⟨m,rfl⟩:=BJ (show 0<=n by lia);have h:=sR_;unfold chB at h;rw [Al] at h;have h:=h m (AV.mpr (by lia));rw [Al] at h;have h:=h k (AV.mpr (by lia));simpa using h
def wmF (t:List Int) (p:Nat) (m:Int):List Int:=t.set p (t.getD p 0+m)
theorem cV_ (t:List Int) (p:Nat) (m:Int):(wmF t p m).length=t.length:=by unfold wmF;rw [Bn]
theorem nJ_ {t:List Int}{p i:Nat}{m:Int} (h:p<t.length):(wmF t p m).getD i 0=t.getD i 0+if p=i then m else 0:=by
 unfold wmF;rw [A8,List.getElem?_set];by_cases e:p=i
 .subst e;simp [h]
 .simp [e]
theorem p0_ {t:List Int}{p:Nat}{x:Int} (h:p<t.length):t.take p++[x]++t.drop (p+1)=t.set p x:=by
 rw [List.set_eq_take_append_cons_drop,A7 h];simp
def spR:Nat->Nat->List (List Nat)
 |0,a=>[[a]]
 |g+1,a=>(List.range (a+1)).flatMap fun h=>(spR g (a-h)).map (h:: ·)
def gV_ (t:List Int):Nat->List Nat->Int
 |_,[]=>1
 |p,s::r=>chF (t.getD p 0+(s:Int)) s*gV_ t (p+1) r
def ig_ (t:List Int):Nat->List Nat->List Int
 |_,[]=>t
 |p,s::r=>ig_ (wmF t p (s:Int)) (p+1) r
theorem lW_ {t:List Int}{m:Int}{q:Nat} (hq:q<t.length):∀{r:List Nat}{p:Nat},q<p->gV_ (wmF t q m) p r=gV_ t p r
 |[],p,_=>rfl
 |s::r,p,h=>by
  unfold gV_;rw [nJ_ hq,A5 (by lia),lW_ hq (r:=r) (by lia)];simp
def pbF:Nat->List Int->Nat->Nat->List (List Int×Int)
 |0,t,p,a=>[(wmF t p (a:Int),chF (t.getD p 0+(a:Int)) a)]
 |g+1,t,p,a=>(List.range (a+1)).flatMap fun h:Nat=>(pbF g (wmF t p (h:Int)) (p+1) (a-h)).map fun x=>(x.1,chF (t.getD p 0+(h:Int)) h*x.2)
theorem fL_ {α β:Type}{f g:α->List β}:∀{xs:List α},(∀x∈xs,f x=g x)->xs.flatMap f=xs.flatMap g
 |[],_=>rfl
 |x::xs,h=>by rw [BD,BD,h x (by simp),fL_ fun y hy=>h y (by simp [hy])]
theorem r5_:∀{g:Nat}{t:List Int}{p a:Nat},p+g<t.length->pbF g t p a=(spR g a).map fun r=>(ig_ t p r,gV_ t p r)
 |0,t,p,a,_=>by simp [pbF,spR,ig_,gV_]
 |g+1,t,p,a,h=>by
  unfold pbF spR;rw [List.map_flatMap];refine fL_ fun x _=> ?_;rw [r5_ (by rw [cV_];lia),BX,BX];refine Ao fun r _=> ?_;simp only [Function.comp,ig_,gV_];rw [lW_ (by lia) (BP p)]
theorem iA_:∀{g a:Nat}{r:List Nat},r∈spR g a->r.length=g+1/\r.sum=a
 |0,a,r,h=>by simp [spR] at h;subst h;simp
 |g+1,a,r,h=>by
  unfold spR at h;obtain⟨x,hx,h⟩:=At.mp h;obtain⟨r',h',rfl⟩:=Af.mp h;have hx:=AV.mp hx;obtain⟨e1,e2⟩:=iA_ h';simp [e1,e2];lia
theorem fT_:∀{t:List Int}{p:Nat}{m:Int},p<t.length->(wmF t p m).sum=t.sum+m
 |[],p,m,h=>absurd h (by simp)
 |x::t,0,m,_=>by simp [wmF];lia
 |x::t,p+1,m,h=>by
  have:=fT_ (t:=t) (p:=p) (m:=m) (by simpa using h);unfold wmF at this⊢;simp only [List.set_cons_succ,Aj,List.getD_cons_succ] at this⊢;lia
theorem nu_:∀{r:List Nat}{t:List Int}{p:Nat},p+r.length<=t.length->(∀i:Nat,0<=t.getD i 0)->(ig_ t p r).length=t.length/\(ig_ t p r).sum=t.sum+(r.sum:Nat)/\∀i:Nat,0<=(ig_ t p r).getD i 0
 |[],t,p,_,h=>by simpa [ig_] using h
 |s::r,t,p,hl,h=>by
  have hp:p<t.length:=by simp at hl;lia
  obtain⟨e1,e2,e3⟩:=nu_ (r:=r) (t:=wmF t p (s:Int)) (p:=p+1) (by rw [cV_];simp at hl;lia) (fun i=>by rw [nJ_ hp];have:=h i;split<;>lia)
  unfold ig_;refine⟨by rw [e1,cV_], ?_,e3⟩;rw [e2,fT_ hp,Aj];lia
theorem fI_:∀{t:List Int},(∀i:Nat,0<=t.getD i 0)->0<=t.sum/\∀i:Nat,t.getD i 0<=t.sum
 |[],_=>by simp
 |x::t,h=>by
  have hx:=h 0;obtain⟨e1,e2⟩:=fI_ (t:=t) fun i=>by have:=h (i+1);simpa using this
  simp only [List.getD_cons_zero] at hx;rw [Aj];refine⟨by lia,fun i=> ?_⟩;cases i with
  |zero=>simp;lia
  |succ i=>have:=e2 i;rw [List.getD_cons_succ];lia
theorem lX_:∀{r:List Nat}{t:List Int}{p:Nat},(∀i:Nat,0<=t.getD i 0)->t.sum+(r.sum:Nat)<=15->0<=gV_ t p r/\gV_ t p r<=6435^r.length
 |[],t,p,_,_=>by simp [gV_]
 |s::r,t,p,h,hs=>by
  rw [Aj] at hs;obtain⟨e1,e2⟩:=fI_ h;have a1:=e2 p;have a2:=h p;obtain⟨c1,c2⟩:=sQ_ (n:=t.getD p 0+(s:Int)) (k:=s) (by lia) (by lia);obtain⟨q1,q2⟩:=lX_ (r:=r) (t:=t) (p:=p+1) h (by lia);unfold gV_;refine⟨Bs c1 q1, ?_⟩;rw [AY,Int.pow_succ,Int.mul_comm];exact CN q2 c2 c1 (Int.pow_nonneg (by decide))
abbrev Tab:=List (List Int×Int)
def eq_ (D:Tab) (g:List Int->Int):Int:=(D.map fun x=>x.2*g x.1).sum
def it_ (D:Tab) (k:List Int):Int:=((D.find? fun x=>decide (x.1=k)).map (·.2)).getD 0
def nA_ (D:Tab) (k:List Int) (v:Int):Tab:=if(D.any fun x=>decide (x.1=k))=true then D.map (fun x=>if x.1=k then(x.1,v) else x) else D++[(k,v)]
def ri_ (D:Tab) (k:List Int) (v:Int):Tab:=nA_ D k (it_ D k+v)
theorem j1_ (D:Tab) (k:List Int) (v:Int):(nA_ D k v).map (·.1)=if k∈D.map (·.1) then D.map (·.1) else D.map (·.1)++[k]:=by
 unfold nA_;have:(D.any fun x=>decide (x.1=k))=true↔k∈D.map (·.1):=by
  rw [List.any_eq_true,Af];simp
 by_cases h:k∈D.map (·.1)
 .rw [A7 h,A7 (this.mpr h),BX];refine Ao fun x _=> ?_;simp only [Function.comp];split<;>rfl
 .rw [A5 h,A5 (fun z=>h (this.mp z)),AG];rfl
theorem ix_ {D:Tab}{k:List Int}{v:Int}{g:List Int->Int} (h:k∉D.map (·.1)):eq_ (nA_ D k v) g=eq_ D g+v*g k/\it_ D k=0:=by
 have hn:∀x∈D,x.1≠k:=fun x hx e=>h (Af.mpr ⟨x,hx,e⟩);have e1:(D.any fun x=>decide (x.1=k))=false:=by
  rw [List.any_eq_false];intro x hx;simpa using hn x hx
 have e2:D.find? (fun x=>decide (x.1=k))=none:=by
  rw [List.find?_eq_none];intro x hx;simpa using hn x hx
 unfold nA_ it_ eq_;rw [e1,e2];simp
theorem eE_:∀{D:Tab}{k:List Int}{v:Int}{g:List Int->Int},(D.map (·.1)).Nodup->k∈D.map (·.1)->eq_ (D.map fun x=>if x.1=k then(x.1,v) else x) g=eq_ D g+(v-it_ D k)*g k
 |[],_,_,_,_,h=>by simp at h
 |x::D,k,v,g,nd,h=>by
  rw [AK,BN] at nd;by_cases e:x.1=k
  .subst e;have hn:∀y∈D,y.1≠x.1:=fun y hy e=>nd.1 (Af.mpr ⟨y,hy,e⟩);have e1:(D.map fun y=>if y.1=x.1 then(y.1,v) else y)=D:=by
    conv=>rhs;rw [<-List.map_id D]
    refine Ao fun y hy=> ?_;rw [A5 (hn y hy)];rfl
   have e2:it_ (x::D) x.1=x.2:=by simp [it_]
   rw [AK,e1,e2];simp only [eq_,C2,AK,Aj];rw [Int.sub_mul];lia
  .have hk:k∈D.map (·.1):=by
    rw [AK,AJ] at h;rcases h with h|h
    .exact absurd h.symm e
    .exact h
   have ih:=eE_ (g:=g) (v:=v) nd.2 hk;have e2:it_ (x::D) k=it_ D k:=by simp [it_,BO,e]
   rw [e2,AK];simp only [eq_,AK,Aj,A5 e] at ih⊢;lia
theorem pS_ {D:Tab} (nd:(D.map (·.1)).Nodup) (k:List Int) (v:Int) (g:List Int->Int):eq_ (ri_ D k v) g=eq_ D g+v*g k:=by
 unfold ri_;by_cases h:k∈D.map (·.1)
 .have e:(D.any fun x=>decide (x.1=k))=true:=by
   rw [List.any_eq_true];obtain⟨x,hx,e⟩:=Af.mp h;exact⟨x,hx,BF e⟩
  unfold nA_;rw [A7 e,eE_ nd h];rw [show it_ D k+v-it_ D k=v by lia]
 .obtain⟨e1,e2⟩:=ix_ (v:=it_ D k+v) (g:=g) h;rw [e1,e2];simp
theorem sg_ {D:Tab} (nd:(D.map (·.1)).Nodup) (k:List Int) (v:Int):((nA_ D k v).map (·.1)).Nodup:=by
 rw [j1_];split
 .exact nd
 .rename_i h;rw [List.nodup_append];exact⟨nd,by simp,fun a ha b hb=>by simp at hb;subst hb;exact fun e=>h (e▸ha)⟩
structure TabOk (d n:Nat) (D:Tab):Prop where
 nd:(D.map (·.1)).Nodup
 key:∀x∈D,x.1.length=d/\x.1.sum=(n:Int)/\∀i:Nat,0<=x.1.getD i 0
theorem TabOk.add {d n:Nat}{D:Tab} (h:TabOk d n D) {k:List Int}{v:Int} (hk:k.length=d/\k.sum=(n:Int)/\∀i:Nat,0<=k.getD i 0):TabOk d n (ri_ D k v):=by
 refine⟨sg_ h.nd _ _,fun x hx=> ?_⟩;have:x.1∈(nA_ D k (it_ D k+v)).map (·.1):=List.mem_map_of_mem hx;rw [j1_] at this;have:x.1∈D.map (·.1)\/x.1=k:=by
  split at this
  .exact .inl this
  .rcases Bd.mp this with h|h
   .exact .inl h
   .exact .inr (by simpa using h)
 rcases this with h'|h'
 .obtain⟨y,hy,e⟩:=Af.mp h';rw [<-e];exact h.key y hy
 .rw [h'];exact hk
def inP (t:List Int) (v:Int) (p:Nat) (rs:List (List Nat)) (acc:Tab):Tab:=rs.foldl (fun acc r=>ri_ acc (ig_ t p r) (v*gV_ t p r)) acc
def stP (p:Nat) (rs:List (List Nat)) (xs acc:Tab):Tab:=xs.foldl (fun acc x=>inP x.1 x.2 p rs acc) acc
def rc_ (g:List Int->Int) (p:Nat) (rs:List (List Nat)) (t:List Int):Int:=(rs.map fun r=>gV_ t p r*g (ig_ t p r)).sum
def nv_ (p d n n':Nat) (rs:List (List Nat)):Prop:=∀r∈rs,p+r.length<=d/\n+r.sum=n'
theorem qD_ {d n n' p:Nat}{r:List Nat}{t:List Int} (h:t.length=d/\t.sum=(n:Int)/\∀i:Nat,0<=t.getD i 0) (hr:p+r.length<=d/\n+r.sum=n'):(ig_ t p r).length=d/\(ig_ t p r).sum=(n':Int)/\∀i:Nat,0<=(ig_ t p r).getD i 0:=by
 obtain⟨e1,e2,e3⟩:=nu_ (r:=r) (t:=t) (p:=p) (by rw [h.1];exact hr.1) h.2.2;exact⟨by rw [e1,h.1],by rw [e2,h.2.1,<-hr.2];lia,e3⟩
theorem mP_ {d n n' p:Nat}{t:List Int}{v:Int} (h:t.length=d/\t.sum=(n:Int)/\∀i:Nat,0<=t.getD i 0) (g:List Int->Int):∀{rs:List (List Nat)}{acc:Tab},nv_ p d n n' rs->TabOk d n' acc->TabOk d n' (inP t v p rs acc)/\eq_ (inP t v p rs acc) g=eq_ acc g+v*rc_ g p rs t
 |[],acc,_,ha=>by simp [inP,rc_,ha]
 |r::rs,acc,hr,ha=>by
  have a1:=ha.add (v:=v*gV_ t p r) (qD_ h (hr r (by simp)));obtain⟨b1,b2⟩:=mP_ (v:=v) h g (rs:=rs) (fun r' h'=>hr r' (by simp [h'])) a1;refine⟨b1, ?_⟩;show eq_ (inP t v p rs (ri_ acc (ig_ t p r) (v*gV_ t p r))) g=_;rw [b2,pS_ ha.nd];simp only [rc_,AK,Aj];rw [Int.mul_add,Int.mul_assoc];lia
theorem lE_ {d n n' p:Nat}{rs:List (List Nat)} (hr:nv_ p d n n' rs) (g:List Int->Int):∀{xs acc:Tab},(∀x∈xs,x.1.length=d/\x.1.sum=(n:Int)/\∀i:Nat,0<=x.1.getD i 0)->TabOk d n' acc->TabOk d n' (stP p rs xs acc)/\eq_ (stP p rs xs acc) g=eq_ acc g+eq_ xs (rc_ g p rs)
 |[],acc,_,ha=>by simp [stP,eq_,ha]
 |x::xs,acc,hx,ha=>by
  obtain⟨a1,a2⟩:=mP_ (v:=x.2) (hx x (by simp)) g hr ha;obtain⟨b1,b2⟩:=lE_ hr g (xs:=xs) (fun y hy=>hx y (by simp [hy])) a1;refine⟨b1, ?_⟩;show eq_ (stP p rs xs (inP x.1 x.2 p rs acc)) g=_;rw [b2,a2];simp only [eq_,AK,Aj];lia
def TF (cnt:Lf->Nat):List Lf->List Int->Int
 |[],_=>1
 |m::ms,t=>rc_ (TF cnt ms) (m.1-1).toNat (spR (m.2.1-m.1-1).toNat (cnt m)) t
def hmF (d:Nat) (mk:List Lf):Int:=TF (fun m=>mk.count m) (kH_ mk) (List.replicate d 0)
theorem nP_ (D:Tab):eq_ D (fun _=>1)=(D.map (·.2)).sum:=by
 unfold eq_;congr 1
 refine Ao fun x _=> ?_;show x.2*1=x.2;lia
def enc:List Int->Nat
 |[]=>0
 |x::t=>x.toNat+16*enc t
theorem ps_:∀{t:List Int},(∀i:Nat,0<=t.getD i 0/\t.getD i 0<=15)->enc t<16^t.length
 |[],_=>by simp [enc]
 |x::t,h=>by
  have h0:=h 0;have ih:=ps_ (t:=t) fun i=>by have:=h (i+1);simpa using this
  simp only [List.getD_cons_zero] at h0;unfold enc;rw [AY,Nat.pow_succ];lia
theorem m3_:∀{t u:List Int},t.length=u.length->(∀i:Nat,0<=t.getD i 0/\t.getD i 0<=15)->(∀i:Nat,0<=u.getD i 0/\u.getD i 0<=15)->enc t=enc u->t=u
 |[],[],_,_,_,_=>rfl
 |[],_::_,h,_,_,_=>absurd h (by simp)
 |_::_,[],h,_,_,_=>absurd h (by simp)
 |x::t,y::u,hl,ht,hu,e=>by
  have h0:=ht 0;have h1:=hu 0;simp only [List.getD_cons_zero] at h0 h1;unfold enc at e;have ih:=m3_ (t:=t) (u:=u) (by simpa using hl) (fun i=>by have:=ht (i+1);simpa using this) (fun i=>by have:=hu (i+1);simpa using this) (by lia);rw [ih,show x=y by lia]
theorem jP_:∀(N:Nat) (xs:List Nat),xs.Nodup->(∀x∈xs,x<N)->xs.length<=N
 |0,[],_,_=>AA _
 |0,x::xs,_,h=>absurd (h x (by simp)) (by lia)
 |N+1,xs,nd,h=>by
  have h1:=jP_ N (xs.filter fun x=>decide (x≠N)) (nd.filter _) fun x hx=>by
   obtain⟨a,b⟩:=List.mem_filter.mp hx;have:=h x a;have:x≠N:=by simpa using b
   lia
  have h2:xs.length<=(xs.filter fun x=>decide (x≠N)).length+1:=by
   clear h1 h;induction xs with
   |nil=>simp
   |cons y ys ih=>
    rw [BN] at nd;by_cases e:y=N
    .subst e;have:(ys.filter fun x=>decide (x≠y))=ys:=by
      rw [List.filter_eq_self];intro z hz;simp;rintro rfl;exact nd.1 hz
     rw [List.filter_cons,A5 (by simp),this,AY];exact AA _
    .have:=ih nd.2;rw [List.filter_cons,A7 (by simpa using e),AY,AY];lia
  lia
theorem TabOk.size {d n:Nat}{D:Tab} (h:TabOk d n D) (hd:d<=5) (hn:n<=15):D.length<=1048576:=by
 have hb:∀x∈D,∀i:Nat,0<=x.1.getD i 0/\x.1.getD i 0<=15:=fun x hx i=>by
  obtain⟨_,e2,e3⟩:=h.key x hx;have:=(fI_ e3).2 i;exact⟨e3 i,by lia⟩
 have:=jP_ (16^d) (D.map fun x=>enc x.1) ?_ ?_
 .rw [A1] at this;have:16^d<=16^5:=CK (by decide) hd;lia
 .have nd:=h.nd;unfold List.Nodup at nd⊢;rw [Cn] at nd⊢;refine List.Pairwise.imp_of_mem (fun{a b} ha hb' hne e=>hne ?_) nd;exact m3_ (by rw [(h.key a ha).1,(h.key b hb').1]) (hb a ha) (hb b hb') e
 .intro x hx;obtain⟨y,hy,rfl⟩:=Af.mp hx;have:=ps_ (hb y hy);rw [(h.key y hy).1] at this;exact this
def e0_ (t:List Int):List Key:=t.map Sum.inl
theorem gC_ (t:List Int):(e0_ t).map kV=t.map V.int:=by unfold e0_;rw [BX];rfl
theorem j4_:∀{t u:List Int},e0_ t=e0_ u->t=u
 |[],[],_=>rfl
 |[],_::_,h=>by simp [e0_] at h
 |_::_,[],h=>by simp [e0_] at h
 |x::t,y::u,h=>by
  simp only [e0_,AK,D4,Sum.inl.injEq] at h;rw [h.1,j4_ (t:=t) (u:=u) h.2]
theorem gD_ {t u:List Int}:e0_ t=e0_ u↔t=u:=⟨j4_,fun e=>by rw [e]⟩
def dr_ (D:Tab):List (List Key×V):=D.map fun x=>(e0_ x.1,V.int x.2)
theorem jv_ (D:Tab):(dr_ D).length=D.length:=by unfold dr_;rw [A1]
theorem ju_ (D:Tab) (k:List Int) (v:Int):dy_ (dr_ D) (e0_ k) (.int v)=dr_ (nA_ D k v):=by
 have e:((dr_ D).any fun kv=>decide (kv.1=e0_ k))=(D.any fun x=>decide (x.1=k)):=by
  unfold dr_;rw [List.any_map];congr 1
  funext x
  simp only [Function.comp,gD_]
 unfold dy_ nA_;rw [e];split
 .unfold dr_;rw [BX,BX];refine Ao fun x _=> ?_;simp only [Function.comp,gD_];split<;>rfl
 .unfold dr_;rw [AG];rfl
theorem jt_ (D:Tab) (k:List Int):dq_ (dr_ D) (e0_ k)=(D.find? fun x=>decide (x.1=k)).map fun x=>V.int x.2:=by
 unfold dq_ dr_;rw [List.find?_map,Option.map_map];have:((fun kv:List Key×V=>decide (kv.1=e0_ k))∘fun x:List Int×Int=>(e0_ x.1,V.int x.2))=fun x=>decide (x.1=k):=by
  funext x
  simp only [Function.comp,gD_]
 rw [this];rfl
theorem nO_ (D:Tab) (k:List Int):(dq_ (dr_ D) (e0_ k)).getD (.int 0)= .int (it_ D k):=by
 rw [jt_];unfold it_;cases D.find? fun x=>decide (x.1=k)<;>rfl
theorem pO_ {D:Tab} (nd:(D.map (·.1)).Nodup) {x:List Int×Int} (h:x∈D):dq_ (dr_ D) (e0_ x.1)=some (.int x.2):=by
 rw [jt_];have:D.find? (fun y=>decide (y.1=x.1))=some x:=by
  induction D with
  |nil=>simp at h
  |cons y D ih=>
   rw [AK,BN] at nd;rcases AJ.mp h with rfl|h
   .simp
   .have:y.1≠x.1:=fun e=>nd.1 (Af.mpr ⟨x,h,e.symm⟩);rw [BO,Ak this];exact ih nd.2 h
 rw [this];rfl
theorem lB_ (D:Tab):(dr_ D).map (·.2)=(D.map (·.2)).map V.int:=by unfold dr_;rw [BX,BX];rfl
def prD (x:List Int×Int):D:= .t [tI x.1, .i x.2]
theorem oL_ (l:List Lf) (x:Lf):(List.range l.length).countP (fun j=>decide (l.getD j (0,0,0)=x))=l.count x:=by
 have e:(List.range l.length).map (fun j=>l.getD j (0,0,0))=l:=by
  apply List.ext_getElem?;intro i;rw [A9];rcases Bj i l.length with c|c
  .rw [List.getElem?_range c];simp [List.getD,c]
  .rw [List.getElem?_eq_none (by simpa using c),List.getElem?_eq_none c];rfl
 conv=>rhs;rw [<-e]
 rw [List.count,List.countP_map];congr 1
 funext j
 simp only [Function.comp];exact(Bool.beq_eq_decide_eq _ _).symm
theorem h1_:∀(l S:List Lf),S.Nodup->(S.map fun m=>l.count m).sum<=l.length
 |[],S,_=>by
  have:(S.map fun m=>List.count m ([]:List Lf))=S.map fun _=>0:=by simp
  rw [this];induction S with
  |nil=>simp
  |cons a S ih=>rename_i nd;simpa using ih (BN.mp nd).2
 |x::l,S,nd=>by
  have ih:=h1_ l S nd;have:(S.map fun m=>(x::l).count m).sum<=(S.map fun m=>l.count m).sum+1/\(x∉S->(S.map fun m=>(x::l).count m).sum=(S.map fun m=>l.count m).sum):=by
   clear ih;induction S with
   |nil=>simp
   |cons a S ih=>
    obtain⟨n1,n2⟩:=BN.mp nd;obtain⟨i1,i2⟩:=ih n2;simp only [AK,Aj];by_cases e:x=a
    .subst e;have:=i2 n1;rw [List.count_cons_self];exact⟨by lia,fun h=>absurd (by simp) h⟩
    .have e':List.count a (x::l)=List.count a l:=List.count_cons_of_ne e;rw [e'];exact⟨by lia,fun h=>by rw [i2 (fun z=>h (by simp [z]))]⟩
  rw [AY];lia
theorem mm_ (j w:Int):∀n:Nat,((List.range n).map fun i:Nat=>if j=1+(i:Int) then w else 0).sum=if 1<=j/\j<=n then w else 0
 |0=>by
  have:¬(1<=j/\j<=((0:Nat):Int)):=by lia
  rw [A5 this];rfl
 |n+1=>by
  rw [Au,AG,C0,mm_ j w n];simp only [AK,D8,Aj,List.sum_nil];by_cases e:j=1+(n:Int)
  .rw [A5 (by lia),A7 e,A7 (by lia)];lia
  .rw [A5 e];by_cases c:1<=j/\j<=n
   .rw [A7 c,A7 (by lia)];lia
   .rw [A5 c,A5 (by lia)];rfl
theorem g3_ (f g h:Nat->Int):∀xs:List Nat,(xs.map fun i=>f i+g i-h i).sum=(xs.map f).sum+(xs.map g).sum-(xs.map h).sum
 |[]=>by simp
 |x::xs=>by
  simp only [AK,Aj,g3_ f g h xs];lia
theorem sE_ {d:Nat}:∀{ps:List Lf},(∀p∈ps,Okl d p)->((List.range d).map (eF ps)).sum=(d:Int)
 |[],_=>by
  have:(List.range d).map (eF [])=(List.range d).map fun _=>1:=by
   refine Ao fun i _=> ?_;simp [eF,fm_,c2_]
  rw [this];induction d with
  |zero=>simp
  |succ d ih=>rw [Au,AG,C0,ih (by intro p hp;exact nomatch hp) (by refine Ao fun i _=> ?_;simp [eF,fm_,c2_])];simp
 |p::ps,h=>by
  have ih:=sE_ (d:=d) (ps:=ps) fun q hq=>h q (by simp [hq]);have e:(List.range d).map (eF (p::ps))=(List.range d).map fun i:Nat=>eF ps i+(if p.2.1=1+(i:Int) then p.2.2 else 0)-(if p.1=1+(i:Int) then p.2.2 else 0):=by
   refine Ao fun i _=> ?_;unfold eF;rw [ec_,dl_];lia
  obtain⟨o1,o2,o3,o4⟩:=h p (by simp);rw [e,g3_,ih,mm_,mm_,A7 ⟨o3,o4⟩,A7 ⟨o1,o2⟩];lia
theorem kg_ (g:Nat->List Lf):∀xs:List Nat,(xs.flatMap g).length=(xs.map fun i=>(g i).length).sum
 |[]=>rfl
 |x::xs=>by rw [BD,AC,kg_ g xs];rfl
theorem hX_ {d:Nat}{ps:List Lf} (ok:∀p∈ps,Okl d p) (h:∀i:Nat,i<d->0<=eF ps i):(e9_ d (bx_ d ps)).length=d:=by
 have e1:((List.range d).map fun i=>((k3_ d (bx_ d ps) i).length:Int))=(List.range d).map (eF ps):=by
  refine Ao fun i hi=> ?_;have hi:=AV.mp hi;unfold k3_;rw [BC,gO_ ok hi];have:=h i hi;lia
 have e2:∀xs:List Nat,(((xs.map fun i=>(k3_ d (bx_ d ps) i).length).sum:Nat):Int)=(xs.map fun i=>((k3_ d (bx_ d ps) i).length:Int)).sum:=fun xs=>by
  induction xs with
  |nil=>rfl
  |cons x xs ih=>simp only [AK,Aj] at ih⊢;lia
 have:=e2 (List.range d);rw [e1,sE_ ok] at this;unfold e9_;rw [kg_];lia
def ed_ (ps:List Lf):Int:=ps.foldl (fun a p=>a*p.2.2^2) 1
def Okw (d:Nat) (p:Lf):Prop:=Okl d p/\1<=p.2.2/\p.2.2<=2^20
def tc_:List Lf->Bool
 |[]=>true
 |x::r=>r.all (fun y=> !(ew_ y x))&&tc_ r
theorem jx_:∀{ps:List Lf},tc_ ps=true->Srt ps
 |[],_=>List.Pairwise.nil
 |x::r,h=>by
  unfold tc_ at h;rw [AN,Al] at h;exact CC.mpr ⟨fun y hy=>by simpa using h.1 y hy,jx_ h.2⟩
def td_ (d:Nat) (ps:List Lf):Bool:=ps.all (sa_ d)&&(List.range d).all (fun i=>decide (0<=eF ps i))&&tc_ ps
theorem nR_ {d:Nat}{ps:List Lf} (h:td_ d ps=true):Snd d ps:=by
 unfold td_ at h;simp only [AN,Al,AV,B'] at h;exact⟨fun p hp=>by have:=gd_.mp (h.1.1 p hp);lia,fun i hi=>h.1.2 i hi,jx_ h.2⟩
def hmD (d:Nat) (x:List Lf):Int:=hmF d (x++e9_ d (bx_ d x))
def oe_ (d:Nat) (x:List Lf):Bool:=td_ d x&&decide (x.length<=20)&&decide (0<=ed_ x)&&decide (ed_ x<2^40)
theorem mn_ {d:Nat}{x:List Lf} (h:oe_ d x=true):Snd d x/\(∀p∈x,Okw d p)/\x.length<=20/\0<=ed_ x/\ed_ x<2^40/\True:=by
 unfold oe_ at h;simp only [AN,B'] at h;obtain⟨⟨⟨h1,h2⟩,h3⟩,h4⟩:=h;refine⟨nR_ h1,fun p hp=> ?_,h2,h3,h4,trivial⟩;unfold td_ at h1;simp only [AN,Al] at h1;have:=gd_.mp (h1.1.1 p hp);exact⟨⟨by lia,by lia,by lia,by lia⟩,by lia,by lia⟩
def cD (L:List (List Lf)) (i j:Nat):Option Bool:=L[i]?.bind fun x=>L[j]?.map fun y=>i6_ x y
def oD (d k:Nat):Option (Array Nat):=eM_ (cD (eu_ d k)) (eu_ d k).length
def sD (d k:Nat):List (List Lf):=if(eu_ d k).length<2 then eu_ d k else((oD d k).getD #[]).toList.map fun i=>(eu_ d k).getD i []
def rb_ (d k:Nat):Prop:=okB d k=true/\(¬(eu_ d k).length<2->∃p,eM_ (cD (eu_ d k)) (eu_ d k).length=some p/\p.size<=1000/\∀i∈p.toList,i<(eu_ d k).length)/\(eu_ d k).length<=1000/\(∀w∈sD d k,oe_ d w=true)/\(sD d k).length<=1000
def ld_ (d k:Nat):Bool:=okB d k&&(eu_ d k).all (oe_ d)&&decide ((eu_ d k).length<=1000)
def kI_ (d k:Nat):Bool:=decide ((eu_ d k).length<2)||match oD d k with
 |none=>false
 |some p=>decide (p.size<=1000)&&p.toList.all fun i=>decide (i<(eu_ d k).length)
theorem kq_ {d k:Nat} (h1:ld_ d k=true) (h2:kI_ d k=true):rb_ d k:=by
 unfold ld_ at h1;simp only [AN,B',Al] at h1;obtain⟨⟨a1,a2⟩,a3⟩:=h1;unfold kI_ at h2;by_cases hl:(eu_ d k).length<2
 .have e:sD d k=eu_ d k:=by unfold sD;rw [A7 hl]
  exact⟨a1,fun h=>absurd hl h,a3,by rw [e];exact a2,by rw [e];exact a3⟩
 .rw [Ak hl,Bool.false_or] at h2;cases ho:oD d k with
  |none=>rw [ho] at h2;cases h2
  |some p=>
   rw [ho] at h2;simp only [AN,B',Al] at h2;have e:sD d k=p.toList.map fun i=>(eu_ d k).getD i []:=by
    unfold sD;rw [A5 hl,ho];rfl
   refine⟨a1,fun _=>⟨p,ho,h2.1,h2.2⟩,a3,fun w hw=> ?_, ?_⟩
   .rw [e] at hw;obtain⟨i,hi,rfl⟩:=Af.mp hw;have:=h2.2 i hi;rw [A8,A3 this];exact a2 _ (CQ _)
   .rw [e,A1,Ah];exact h2.1
def w38 (d:Nat):Bool:=(List.range (if d=5 then 4 else 7)).all fun k=>ld_ d k&&kI_ d k
theorem tn_:w38 1=true:=by ac_nf
theorem tm_:w38 2=true:=by ac_nf
theorem tl_:w38 3=true:=by ac_nf
theorem tk_:w38 4=true:=by ac_nf
theorem rn_:((List.range 3).all fun k=>ld_ 5 k&&kI_ 5 k)=true:=by ac_nf
theorem rm_:ld_ 5 3=true:=by ac_nf
theorem rl_:kI_ 5 3=true:=by ac_nf
theorem sK_ {d k:Nat} (h:Wide d k):rb_ d k:=by
 unfold Wide at h;have hd:d=1\/d=2\/d=3\/d=4\/(d=5/\k<3)\/(d=5/\k=3):=by lia
 have go:∀{m n:Nat},((List.range n).all fun k=>ld_ m k&&kI_ m k)=true->∀{k},k<n->rb_ m k:=fun h k hk=>by
  have:=Al.mp h k (AV.mpr hk);rw [AN] at this;exact kq_ this.1 this.2
 rcases hd with rfl|rfl|rfl|rfl|⟨rfl,hk⟩|⟨rfl,rfl⟩
 .exact go (n:=7) tn_ (by lia)
 .exact go (n:=7) tm_ (by lia)
 .exact go (n:=7) tl_ (by lia)
 .exact go (n:=7) tk_ (by lia)
 .exact go rn_ hk
 .exact kq_ rm_ rl_
def uF_ (d:Nat) (x:List Lf):Int:=ed_ x*hmD d x
def ut_ (d k:Nat):Int:=((sD d k).map (uF_ d)).sum
def wtG:Int->List Int->Int
 |_,[]=>0
 |i,x::r=>i*x+wtG (i+1) r
def wtF (r:List Int):Int:=wtG 1 r
def rwS (found:List (List Int)) (n:Int):List (List Int):=found.flatMap fun b=>(List.range (n+1).toNat).map fun h:Nat=>b++[(h:Int)]
def rwF (row:List Int):List (List Int):=row.foldl rwS [[]]
def rbF:Nat->List Int->Int->Nat->List (List Int)
 |0,_,_,_=>[]
 |n+1,row,wt,first=>if wt-wtF row=0 then [row] else(List.range (min row.length (wt-wtF row).toNat-first)).flatMap fun j=>rbF n (wmF row (first+j) 1) wt (first+j)
def io_:List Int->List Int->Int
 |x::a,y::b=>chF x y.toNat*io_ a b
 |_,_=>1
def wgG:Int->List Int->List Int->List Int
 |i,x::a,y::b=>List.replicate (y-x).toNat i++wgG (i+1) a b
 |_,_,_=>[]
def wgF (r f:List Int):List Int:=wgG 1 r f
structure Ask4 where
 d:Int
 k:Int
 h:List Int
 f:List Int
abbrev Sm4:=Int×List Int×Ask4
def mU_ (q:Ask4) (p:Nat):List Sm4:=if q.f.getD p 0>0 then [(1,[(p:Int)+1],⟨q.d,q.k,wmF q.h p 1,wmF q.f p (-1)⟩)] else []
def k1_ (q:Ask4):List Sm4:=(List.range q.f.length).flatMap (mU_ q)
def rg_ (q:Ask4) (kp fr:List Int):Sm4:=(io_ q.h kp*io_ fr q.f,wgF q.f fr,⟨q.d-1,q.k+fr.sum-q.f.sum-q.d+1,kp,fr⟩)
def m0_ (q:Ask4) (kp:List Int):List Sm4:=(rbF 8 q.f (q.d-1-wtF kp) 0).map (rg_ q kp)
def rf_ (q:Ask4):List Sm4:=(rwF q.h).flatMap (m0_ q)
def fh_ (q:Ask4):List Sm4:=k1_ q++rf_ q
def il_ (ws:List Int):Int:=ws.foldl (· * ·) 1
def pz_:Nat->Ask4->Int
 |0,_=>0
 |n+1,q=>if q.k<0 then 0 else if q.d=1 then(if q.k=0 then 1 else 0) else((fh_ q).map fun x=>x.1*il_ x.2.1*pz_ n x.2.2).sum
def Nn (t:List Int):Prop:=∀i:Nat,0<=t.getD i 0
theorem Nn.cons {x:Int}{t:List Int}:Nn (x::t)↔0<=x/\Nn t:=by
 constructor
 .intro h;exact⟨h 0,fun i=>h (i+1)⟩
 .rintro⟨a,b⟩ i;cases i with
  |zero=>exact a
  |succ i=>exact b i
theorem cr_:∀{t:List Int}{i:Int},0<=i->Nn t->0<=wtG i t
 |[],_,_,_=>Cg 0
 |x::t,i,hi,h=>by
  obtain⟨a,b⟩:=Nn.cons.mp h;have:=cr_ (i:=i+1) (by lia) b;have:=Bs hi a;unfold wtG;lia
theorem ci_:∀{t:List Int}{i:Int},1<=i->Nn t->0<=t.sum/\t.sum<=wtG i t
 |[],_,_,_=>⟨Cg 0,Cg 0⟩
 |x::t,i,hi,h=>by
  obtain⟨a,b⟩:=Nn.cons.mp h;obtain⟨s1,s2⟩:=ci_ (i:=i+1) (by lia) b;have:1*x<=i*x:=Int.mul_le_mul_of_nonneg_right hi a;rw [Aj];unfold wtG;lia
theorem jp_ {m:Int}:∀{t:List Int}{p:Nat}{i:Int},p<t.length->wtG i (wmF t p m)=wtG i t+(i+p)*m
 |[],p,_,h=>absurd h (by simp)
 |x::t,0,i,_=>by
  show wtG i ((x+m)::t)=wtG i (x::t)+_;unfold wtG;rw [Int.mul_add];simp;lia
 |x::t,p+1,i,h=>by
  have ih:=jp_ (m:=m) (t:=t) (p:=p) (i:=i+1) (by simpa using h);show wtG i (x::wmF t p m)=wtG i (x::t)+_;unfold wtG;rw [ih,show i+1+(p:Int)=i+((p+1:Nat):Int) by lia];lia
theorem oj_ {t:List Int}{p:Nat}{m:Int} (hp:p<t.length) (h:Nn t) (hm:0<=t.getD p 0+m):Nn (wmF t p m):=fun i=>by
 rw [nJ_ hp];split
 .next e=>rw [<-e];exact hm
 .have:=h i;lia
theorem qp_ {t:List Int}{x:Int} (h:Nn t) (hx:0<=x):Nn (t++[x]):=by
 induction t with
 |nil=>exact Nn.cons.mpr ⟨hx,fun i=>by simp⟩
 |cons y t ih=>
  obtain⟨a,b⟩:=Nn.cons.mp h;exact Nn.cons.mpr ⟨a,ih b⟩
def Le:List Int->List Int->Prop
 |x::a,y::b=>0<=x/\x<=y/\Le a b
 |[],[]=>True
 |_,_=>False
theorem Le.len:∀{a b:List Int},Le a b->a.length=b.length
 |[],[],_=>rfl
 |x::a,y::b,h=>Bb (· +1) (Le.len h.2.2)
theorem Le.nn:∀{a b:List Int},Le a b->Nn a/\Nn b
 |[],[],_=>⟨fun i=>by simp,fun i=>by simp⟩
 |x::a,y::b,h=>by
  obtain⟨p,q⟩:=Le.nn h.2.2;exact⟨Nn.cons.mpr ⟨h.1,p⟩,Nn.cons.mpr ⟨by have:=h.1;have:=h.2.1;lia,q⟩⟩
theorem Le.snoc:∀{a b:List Int}{x y:Int},Le a b->0<=x->x<=y->Le (a++[x]) (b++[y])
 |[],[],_,_,_,h1,h2=>⟨h1,h2,trivial⟩
 |_::a,_::b,_,_,h,h1,h2=>⟨h.1,h.2.1,Le.snoc h.2.2 h1 h2⟩
theorem Le.self:∀{a:List Int},Nn a->Le a a
 |[],_=>trivial
 |x::a,h=>by
  obtain⟨p,q⟩:=Nn.cons.mp h;exact⟨p,Cg x,Le.self q⟩
theorem Le.wt:∀{a b:List Int}{i:Int},0<=i->Le a b->wtG i a<=wtG i b
 |[],[],_,_,_=>Cg 0
 |x::a,y::b,i,hi,h=>by
  have:=Le.wt (i:=i+1) (by lia) h.2.2;have:=Int.mul_le_mul_of_nonneg_left h.2.1 hi;unfold wtG;lia
theorem Le.gain:∀{a b:List Int}{i:Int},1<=i->Le a b->a.sum<=b.sum/\b.sum-a.sum<=wtG i b-wtG i a
 |[],[],_,_,_=>by simp [wtG]
 |x::a,y::b,i,hi,h=>by
  obtain⟨g1,g2⟩:=Le.gain (i:=i+1) (by lia) h.2.2;have h1:=h.2.1;have:1*(y-x)<=i*(y-x):=Int.mul_le_mul_of_nonneg_right hi (by lia);have e:i*(y-x)=i*y-i*x:=Int.mul_sub i y x;rw [Aj,Aj];unfold wtG;lia
theorem Le.wm {a b:List Int}{p:Nat} (h:Le a b) (hp:p<b.length):Le a (wmF b p 1):=by
 induction a generalizing b p with
 |nil=>
  cases b with
  |nil=>exact trivial
  |cons y b=>exact h.elim
 |cons x a ih=>
  cases b with
  |nil=>exact h.elim
  |cons y b=>
   cases p with
   |zero=>exact⟨h.1,by show x<=y+1;have:=h.2.1;lia,h.2.2⟩
   |succ p=>exact⟨h.1,h.2.1,ih h.2.2 (by simpa using hp)⟩
theorem lO_ {row t:List Int} (hn:Nn row) (h:t∈rwF row):Le t row:=by
 have go:∀(r2 r1:List Int) (F:List (List Int)),(∀t∈F,Le t r1)->Nn r2->∀t∈r2.foldl rwS F,Le t (r1++r2):=by
  intro r2;induction r2 with
  |nil=>intro r1 F hF _ t ht;rw [Av];exact hF t ht
  |cons n r2 ih=>
   intro r1 F hF hn t ht;obtain⟨n0,n2⟩:=Nn.cons.mp hn;rw [show r1++n::r2=(r1++[n])++r2 by simp];refine ih (r1++[n]) (rwS F n) (fun u hu=> ?_) n2 t ht;obtain⟨b,hb,hu⟩:=At.mp hu;obtain⟨k,hk,rfl⟩:=Af.mp hu;have hk:=AV.mp hk;exact(hF b hb).snoc (by lia) (by lia)
 exact go row [] [[]] (fun t ht=>by rw [AS.mp ht];exact trivial) hn t h
theorem lQ_ {F:List (List Int)}{n:Int}:(rwS F n).length=F.length*(n+1).toNat:=by
 unfold rwS;induction F with
 |nil=>simp
 |cons b F ih=>
  rw [BD,AC,ih,A1,BI,AY,CP,Nat.add_comm]
theorem va_ (n:Nat):n+1<=2^n:=by
 induction n with
 |zero=>decide
 |succ n ih=>rw [Nat.pow_succ];lia
theorem o2_:∀(row:List Int) (F:List (List Int)),Nn row->(row.foldl rwS F).length<=F.length*2^row.sum.toNat
 |[],F,_=>by simp
 |n::row,F,h=>by
  obtain⟨a,b⟩:=Nn.cons.mp h;have ih:=o2_ row (rwS F n) b;rw [lQ_] at ih;have s0:=(ci_ (i:=1) (by decide) b).1;rw [Aj,show(n+row.sum).toNat=n.toNat+row.sum.toNat by lia,Nat.pow_add,<-Nat.mul_assoc];refine B6 ih (Nat.mul_le_mul_right _ (Nat.mul_le_mul_left _ ?_));rw [show(n+1).toNat=n.toNat+1 by lia];exact va_ _
theorem qo_ {t:List Int} (h:Nn t) (i:Nat):Nn (t.take i):=fun j=>by
 rw [A8,List.getElem?_take];split
 .have:=h j;rwa [A8] at this
 .simp
theorem lP_ {row:List Int} (hn:Nn row) (hs:row.sum<=5) (i:Nat):(rwF (row.take i)).length<=32:=by
 have nt:Nn (row.take i):=fun j=>by
  rw [A8,List.getElem?_take];split
  .have:=hn j;rwa [A8] at this
  .simp
 have st:(row.take i).sum<=5:=by
  have e:(row.take i).sum+(row.drop i).sum=row.sum:=by rw [<-C0,Cv]
  have nd:Nn (row.drop i):=fun j=>by
   rw [A8,List.getElem?_drop];have:=hn (i+j);rwa [A8] at this
  have:=(ci_ (i:=1) (by decide) nd).1;lia
 have h:=o2_ (row.take i) [[]] nt;have s0:=(ci_ (i:=1) (by decide) nt).1;have:2^(row.take i).sum.toNat<=2^5:=CK (by decide) (by lia);unfold rwF;simp only [AY,List.length_nil] at h;lia
theorem o4_ {wt:Int}:∀{n:Nat}{row t:List Int}{first:Nat},t∈rbF n row wt first->Nn row->∀{a:List Int},Le a row->Le a t/\wtF t=wt
 |0,_,_,_,h,_,_,_=>nomatch h
 |n+1,row,t,first,h,hn,a,ha=>by
  unfold rbF at h;split at h
  .next e=>rw [AS.mp h];exact⟨ha,by lia⟩
  .obtain⟨j,hj,h⟩:=At.mp h;have hj:=AV.mp hj;have hp:first+j<row.length:=by lia
   exact o4_ h (oj_ hp hn (by have:=hn (first+j);lia)) (ha.wm hp)
theorem l0_ {wt:Int}:∀{n:Nat}{row:List Int}{first:Nat},row.length<=5->(rbF n row wt first).length<=5^n
 |0,_,_,_=>AM _
 |n+1,row,first,h=>by
  unfold rbF;split
  .exact Nat.one_le_pow _ _ (by decide)
  .have go:∀m,m<=5->((List.range m).flatMap fun j=>rbF n (wmF row (first+j) 1) wt (first+j)).length<=m*5^n:=by
    intro m;induction m with
    |zero=>intro _;exact AM _
    |succ m ih=>
     intro hm;rw [Au,B0,AC,CP,BD,CS,Av];have:=ih (by lia);have:=l0_ (n:=n) (wt:=wt) (row:=wmF row (first+m) 1) (first:=first+m) (by rw [cV_];exact h);lia
   have:=go (min row.length (wt-wtF row).toNat-first) (by lia);have h5:(min row.length (wt-wtF row).toNat-first)*5^n<=5*5^n:=Nat.mul_le_mul_right _ (by lia);rw [Nat.pow_succ,Nat.mul_comm];lia
def ch2:Bool:=(List.range 16).all fun n=>(List.range (n+1)).all fun k=>decide (0<=chF (n:Int) k)&&decide (chF (n:Int) k<=2^n)
theorem sS_:ch2=true:=by ac_nf
theorem pB_ {n k:Int} (h0:0<=k) (h1:k<=n) (h2:n<=15):0<=chF n k.toNat/\chF n k.toNat<=2^n.toNat:=by
 obtain⟨m,rfl⟩:=BJ (show 0<=n by lia);have h:=sS_;unfold ch2 at h;rw [Al] at h;have h:=h m (AV.mpr (by lia));rw [Al] at h;have h:=h k.toNat (AV.mpr (by lia));simpa using h
theorem pA_:∀{a b:List Int},Le a b->b.sum<=15->0<=io_ b a/\io_ b a<=2^b.sum.toNat
 |[],[],_,_=>by simp [io_]
 |x::a,y::b,h,hs=>by
  obtain⟨h1,h2,h3⟩:=h;have s0:=(ci_ (i:=1) (by decide) (Le.nn h3).2).1;rw [Aj] at hs;obtain⟨c1,c2⟩:=pA_ h3 (by lia);obtain⟨d1,d2⟩:=pB_ h1 h2 (by lia);rw [Aj,show(y+b.sum).toNat=y.toNat+b.sum.toNat by lia,Int.pow_add];unfold io_;exact⟨Bs d1 c1,CN d2 c2 c1 (Int.pow_nonneg (by decide))⟩
theorem ku_ {a b:List Int} (h:Le a b) (hs:b.sum<=5):0<=io_ b a/\io_ b a<=32:=by
 obtain⟨c1,c2⟩:=pA_ h (by lia);have s0:=(ci_ (i:=1) (by decide) (Le.nn h).2).1;have:(2:Int)^b.sum.toNat<=2^5:=by
  have:b.sum.toNat=0\/b.sum.toNat=1\/b.sum.toNat=2\/b.sum.toNat=3\/b.sum.toNat=4\/b.sum.toNat=5:=by lia
  rcases this with e|e|e|e|e|e<;>rw [e]<;>decide
 exact⟨c1,by lia⟩
structure AskOk (L:Nat) (q:Ask4):Prop where
 hl:q.h.length=L
 fl:q.f.length=L
 hn:Nn q.h
 fn:Nn q.f
 wt:wtF q.h+wtF q.f=q.d
 d1:1<=q.d
 dL:q.d<=L
 L5:L<=5
 k6:q.k<=6
def muF (q:Ask4):Int:=6*q.d+q.f.sum
section
variable {L:Nat}{q:Ask4}
theorem AskOk.sums (a:AskOk L q):0<=q.h.sum/\q.h.sum<=5/\0<=q.f.sum/\q.f.sum<=5:=by
 obtain⟨h1,h2⟩:=ci_ (i:=1) (by decide) a.hn;obtain⟨f1,f2⟩:=ci_ (i:=1) (by decide) a.fn;have w1:=cr_ (i:=1) (by decide) a.hn;have w2:=cr_ (i:=1) (by decide) a.fn;have:=a.wt;have:=a.dL;have:=a.L5;unfold wtF at*
 lia
theorem AskOk.held (a:AskOk L q) {x:Sm4} (hx:x∈k1_ q):AskOk L x.2.2/\muF x.2.2+1<=muF q/\x.1=1/\∃w:Int,x.2.1=[w]/\1<=w/\w<=5:=by
 unfold k1_ at hx;obtain⟨p,hp,hx⟩:=At.mp hx;have hp:=AV.mp hp;unfold mU_ at hx;split at hx
 .next hf=>
  rw [AS.mp hx];have hp':p<q.h.length:=by rw [a.hl,<-a.fl];exact hp
  have h5:=a.L5;have fl:=a.fl;refine⟨⟨by rw [cV_];exact a.hl,by rw [cV_];exact fl,oj_ hp' a.hn (by have:=a.hn p;lia),oj_ hp a.fn (by lia), ?_,a.d1,a.dL,h5,a.k6⟩, ?_,rfl,_,rfl,by lia,by lia⟩
  .have:=a.wt;show wtF (wmF q.h p 1)+wtF (wmF q.f p (-1))=q.d;unfold wtF at*
   rw [jp_ hp',jp_ hp];lia
  .show 6*q.d+(wmF q.f p (-1)).sum+1<=6*q.d+q.f.sum;rw [fT_ hp];lia
 .cases hx
theorem AskOk.few (a:AskOk L q) (d2:2<=q.d) {kp fr:List Int} (hk:kp∈rwF q.h) (hf:fr∈rbF 8 q.f (q.d-1-wtF kp) 0):AskOk L ⟨q.d-1,q.k+fr.sum-q.f.sum-q.d+1,kp,fr⟩/\6*(q.d-1)+fr.sum+1<=muF q/\Le kp q.h/\Le q.f fr/\fr.sum<=5:=by
 have l1:=lO_ a.hn hk;obtain⟨l2,e⟩:=o4_ hf a.fn (Le.self a.fn);have n1:=(Le.nn l1).1;have n2:=(Le.nn l2).2;have w1:=cr_ (i:=1) (by decide) n1;have w2:=cr_ (i:=1) (by decide) a.fn;obtain⟨g1,g2⟩:=l2.gain (i:=1) (by decide);obtain⟨s1,s2⟩:=ci_ (i:=1) (by decide) n2;have h5:=a.L5;have dL:=a.dL;have k6:=a.k6;have sf:=a.sums;unfold wtF at e w1 w2;refine⟨⟨l1.len.trans a.hl,l2.len.symm.trans a.fl,n1,n2, ?_, ?_, ?_,h5, ?_⟩, ?_,l1,l2, ?_⟩
 .show wtF kp+wtF fr=q.d-1;unfold wtF;lia
 .show 1<=q.d-1;lia
 .show q.d-1<=L;lia
 .show q.k+fr.sum-q.f.sum-q.d+1<=6;lia
 .unfold muF;lia
 .lia
theorem mZ_ {x:Sm4} (hx:x∈rf_ q):∃kp∈rwF q.h,∃fr∈rbF 8 q.f (q.d-1-wtF kp) 0,x=rg_ q kp fr:=by
 unfold rf_ at hx;obtain⟨kp,hk,hx⟩:=At.mp hx;unfold m0_ at hx;obtain⟨fr,hf,rfl⟩:=Af.mp hx;exact⟨kp,hk,fr,hf,rfl⟩
theorem AskOk.less (a:AskOk L q) (d2:2<=q.d) {x:Sm4} (hx:x∈fh_ q):AskOk L x.2.2/\muF x.2.2+1<=muF q:=by
 unfold fh_ at hx;rcases Bd.mp hx with hx|hx
 .exact⟨(a.held hx).1,(a.held hx).2.1⟩
 .obtain⟨kp,hk,fr,hf,rfl⟩:=mZ_ hx;obtain⟨h1,h2,_⟩:=a.few d2 hk hf;exact⟨h1,h2⟩
end
theorem AskOk.mu {L:Nat}{q:Ask4} (a:AskOk L q):6<=muF q/\muF q<=35:=by
 have:=a.sums;have:=a.d1;have:=a.dL;have:=a.L5;unfold muF;lia
theorem ks_ {L:Nat}:∀{n m:Nat}{q:Ask4},AskOk L q->muF q<=n->muF q<=m->pz_ n q=pz_ m q
 |0,_,q,a,h,_=>by have:=a.mu;lia
 |_+1,0,q,a,_,h=>by have:=a.mu;lia
 |n+1,m+1,q,a,h1,h2=>by
  unfold pz_;split
  .rfl
  .split
   .rfl
   .next hd=>
    refine Bb List.sum (Ao fun x hx=> ?_);obtain⟨b,c⟩:=a.less (by have:=a.d1;lia) hx;rw [ks_ b (n:=n) (m:=m) (by lia) (by lia)]
def cF (q:Ask4):Int:=pz_ 36 q
theorem sV_ {q:Ask4} (h:q.k<0):cF q=0:=A7 h
theorem sU_ {q:Ask4} (h:¬q.k<0) (hd:q.d=1):cF q=if q.k=0 then 1 else 0:=by
 unfold cF pz_;rw [A5 h,A7 hd]
theorem sT_ {L:Nat}{q:Ask4} (a:AskOk L q) (h:¬q.k<0) (hd:¬q.d=1):cF q=((fh_ q).map fun x=>x.1*il_ x.2.1*cF x.2.2).sum:=by
 have e:cF q=pz_ 37 q:=ks_ a (by have:=a.mu;lia) (by have:=a.mu;lia);rw [e];unfold pz_;rw [A5 h,A5 hd];rfl
theorem lm_:∀{t:List Int}{i:Int},wtG i (t++[0])=wtG i t
 |[],i=>by simp [wtG]
 |x::t,i=>by
  show i*x+wtG (i+1) (t++[0])=i*x+wtG (i+1) t;rw [lm_]
def hm_ (n:Nat) (t:List Int):List Int:=t++List.replicate (n-t.length) 0
theorem rk_ {n:Nat}:∀{t:List Int}{i:Int},wtG i (t++List.replicate n 0)=wtG i t:=by
 induction n with
 |zero=>intro t i;simp
 |succ n ih=>
  intro t i;rw [List.replicate_succ',<-BA,lm_,ih]
def el_:Nat->Nat->Nat->List (List Int)
 |_,0,_=>[[]]
 |i,n+1,b=>(List.range (b/i+1)).flatMap fun x=>(el_ (i+1) n (b-i*x)).map ((x:Int):: ·)
theorem f3_:∀{n i b:Nat}{t:List Int},1<=i->t.length=n->Nn t->wtG (i:Int) t<=b->t∈el_ i n b
 |0,i,b,t,_,hl,_,_=>by rw [Cf.mp hl];exact AX
 |n+1,i,b,[],_,hl,_,_=>nomatch hl
 |n+1,i,b,x::t,hi,hl,hn,hw=>by
  obtain⟨x0,tn⟩:=Nn.cons.mp hn;obtain⟨m,rfl⟩:=BJ x0;have w:=cr_ (i:=(i:Int)+1) (by lia) tn;unfold wtG at hw;have hm:i*m<=b:=by
   have:((i*m:Nat):Int)=(i:Int)*(m:Int):=Int.natCast_mul i m;lia
  unfold el_;refine At.mpr ⟨m,AV.mpr (Nat.lt_succ_of_le ((Nat.le_div_iff_mul_le (by lia)).mpr (by rw [Nat.mul_comm];exact hm))),Af.mpr ⟨t,f3_ (by lia) (by simpa using hl) tn ?_,rfl⟩⟩;have:((i*m:Nat):Int)=(i:Int)*(m:Int):=Int.natCast_mul i m;show wtG ((i:Int)+1) t<=_;lia
def o3_:Bool:=(List.range 6).all fun L=>decide ((el_ 1 L 5).length<=19)
theorem lV_:o3_=true:=by ac_nf
theorem p7_ (a b:List Int):il_ (a++b)=il_ a*il_ b:=by
 have go:∀(b:List Int) (x:Int),b.foldl (· * ·) x=x*b.foldl (· * ·) 1:=fun b=>by
  induction b with
  |nil=>intro x;simp
  |cons y b ih=>
   intro x;rw [CD,CD,ih,ih (1*y),Int.one_mul,Int.mul_assoc]
 unfold il_;rw [CH,go]
def chG (n:Int):Nat->Int
 |0=>1
 |i+1=>chG n i*(n-(0+(i:Int)))/((0+(i:Int))+1)
def cho (n k:Int):Int:=if k<0\/k>n then 0 else chG n k.toNat
def tb_ (f:Nat->Int):Nat->Int
 |0=>0
 |n+1=>tb_ f n+f n
def vF:List (Nat×Int)->Nat->Int
 |[],_=>0
 |(k,a)::r,i=>if i=k then a else vF r i
theorem oV_:∀{kvs:List (Nat×Int)}{i:Nat},i∉kvs.map (·.1)->vF kvs i=0
 |[],_,_=>rfl
 |(k,a)::r,i,h=>by
  rw [AK,AJ,not_or] at h;unfold vF;rw [A5 h.1,oV_ h.2]
def cvn (ch:Nat->Nat->Int) (n:Nat) (f g:Nat->Int) (s:Nat):Int:=tb_ (fun r=>tb_ (fun t=>if r+t=s then f r*g t*ch s r else 0) n) n
def below (F:Nat->Int) (d:Nat):Int:=tb_ (fun e=>F (e+1)) (d-1)
def dI (xs:List (Nat×Int)):List (Key×V):=xs.map fun x=>(.inl (x.1:Int), .int x.2)
def nz_ (xs:List (Nat×Int)) (k:Nat) (v:Int):List (Nat×Int):=if(xs.any fun x=>decide (x.1=k))=true then xs.map (fun x=>if x.1=k then(x.1,v) else x) else xs++[(k,v)]
theorem b8_ {a b:Nat}:(Sum.inl (a:Int):Key)=Sum.inl (b:Int)↔a=b:=⟨fun h=>by have:=Sum.inl.inj h;lia,fun h=>by rw [h]⟩
theorem sP_ (xs:List (Nat×Int)) (k:Nat):((dI xs).any fun kv=>decide (kv.1=(Sum.inl (k:Int):Key)))=xs.any fun x=>decide (x.1=k):=by
 unfold dI;rw [List.any_map];congr 1
 funext x
 exact decide_eq_decide.mpr b8_
theorem sN_ (xs:List (Nat×Int)) (k:Nat) (v:Int):dy_ (dI xs) (.inl (k:Int)) (.int v)=dI (nz_ xs k v):=by
 unfold dy_ nz_;rw [sP_];by_cases h:(xs.any fun x=>decide (x.1=k))=true
 .rw [A7 h,A7 h];unfold dI;rw [BX,BX];refine Ao fun x _=> ?_;show(if(Sum.inl (x.1:Int):Key)= .inl (k:Int) then _ else _)=_;by_cases e:x.1=k
  .rw [A7 (b8_.mpr e)];simp only [Function.comp,A7 e]
  .rw [A5 fun z=>e (b8_.mp z)];simp only [Function.comp,A5 e]
 .rw [A5 h,A5 h];unfold dI;rw [AG];rfl
theorem sM_ (xs:List (Nat×Int)) (k:Nat):dq_ (dI xs) (.inl (k:Int))=if k∈xs.map (·.1) then some (.int (vF xs k)) else none:=by
 induction xs with
 |nil=>rfl
 |cons x r ih=>
  obtain⟨j,a⟩:=x;unfold dq_ dI at ih⊢;rw [AK,BO,AK];by_cases e:j=k
  .subst e;simp [vF]
  .have e':¬((Sum.inl (j:Int):Key)= .inl (k:Int)):=fun z=>e (b8_.mp z);rw [Ak e'];have e2:¬k=j:=fun z=>e z.symm;simp only [AJ,e2,false_or];rw [show vF ((j,a)::r) k=vF r k from A5 e2];exact ih
theorem hK_ (xs:List (Nat×Int)) (k:Nat) (v:Int):(nz_ xs k v).map (·.1)=if k∈xs.map (·.1) then xs.map (·.1) else xs.map (·.1)++[k]:=by
 unfold nz_;have:(xs.any fun x=>decide (x.1=k))=true↔k∈xs.map (·.1):=by
  rw [List.any_eq_true,Af];simp
 by_cases h:k∈xs.map (·.1)
 .rw [A7 h,A7 (this.mpr h),BX];refine Ao fun x _=> ?_;simp only [Function.comp];split<;>rfl
 .rw [A5 h,A5 (fun z=>h (this.mp z)),AG];rfl
theorem kV_ {xs:List (Nat×Int)} (h:(xs.map (·.1)).Nodup) (k:Nat) (v:Int):((nz_ xs k v).map (·.1)).Nodup:=by
 rw [hK_];by_cases e:k∈xs.map (·.1)
 .rw [A7 e];exact h
 .rw [A5 e];refine List.nodup_append.mpr ⟨h,by simp,fun a ha b hb z=> ?_⟩;rw [AS.mp hb] at z;exact e (z▸ha)
theorem oW_ {k:Nat}{v:Int}{i:Nat}:∀{xs:List (Nat×Int)},vF (xs++[(k,v)]) i=if i∈xs.map (·.1) then vF xs i else if i=k then v else 0
 |[]=>by simp [vF]
 |(j,a)::r=>by
  rw [List.cons_append,AK];unfold vF;by_cases e:i=j
  .simp [e]
  .rw [A5 e,A5 e,oW_];by_cases hi:i∈r.map (·.1)
   .rw [A7 hi,A7 (AR _ hi)]
   .rw [A5 hi,A5 fun z=>(AJ.mp z).elim e hi]
theorem lt_ {k:Nat}{v:Int}{i:Nat}:∀{xs:List (Nat×Int)},k∈xs.map (·.1)->vF (xs.map fun x=>if x.1=k then(x.1,v) else x) i=if i=k then v else vF xs i
 |[],h=>by simp at h
 |(j,a)::r,h=>by
  rw [AK];by_cases ej:j=k
  .subst ej;rw [A7 rfl];unfold vF;by_cases e:i=j
   .rw [A7 e,A7 e]
   .rw [A5 e,A5 e,A5 e];by_cases hr:j∈r.map (·.1)
    .rw [lt_ hr,A5 e]
    .rw [show(r.map fun x=>if x.1=j then(x.1,v) else x)=r by
      conv=>rhs;rw [<-List.map_id r]
      refine Ao fun x hx=> ?_;rw [A5 fun z=>hr (Af.mpr ⟨x,hx,z⟩)];rfl]
  .have hr:k∈r.map (·.1):=by
    rw [AK,AJ] at h;exact h.resolve_left fun z=>ej z.symm
   rw [A5 ej];unfold vF;by_cases e:i=j
   .rw [A7 e,A7 e,A5 (by lia)]
   .rw [A5 e,A5 e,lt_ hr]
theorem ro_ (xs:List (Nat×Int)) (k:Nat) (v:Int) (i:Nat):vF (nz_ xs k v) i=if i=k then v else vF xs i:=by
 unfold nz_;have:(xs.any fun x=>decide (x.1=k))=true↔k∈xs.map (·.1):=by
  rw [List.any_eq_true,Af];simp
 by_cases h:k∈xs.map (·.1)
 .rw [A7 (this.mpr h),lt_ h]
 .rw [A5 (fun z=>h (this.mp z)),oW_];by_cases e:i=k
  .subst e;rw [A5 h,A7 rfl,A7 rfl]
  .rw [A5 e,A5 e];by_cases hi:i∈xs.map (·.1)
   .rw [A7 hi]
   .rw [A5 hi,oV_ hi]
def chS (s r:Nat):Int:=cho ((s:Int)-1) ((r:Int)-1)
def FOk (q n:Nat) (F:Nat->Nat->Int):Prop:=∀d s,F d s≠0->1<=d/\d<=n/\1<=s/\s<=q*d
def Sz (q n:Nat):Prop:=q*n<=20/\1<=n/\n<=4
theorem Sz.le {q n d:Nat} (h:Sz q n) (hd:d<=n):q*d<=20:=B6 (Nat.mul_le_mul_left q hd) h.1
def cv (f g:Nat->Int) (s:Nat):Int:=cvn chS 21 f g s
def cP_ (d s:Nat) (v:Int):List Int:=[(d:Int),(s:Int),v]
theorem et_ {d s d' s':Nat}{v v':Int} (h:cP_ d s v=cP_ d' s' v'):d=d'/\s=s'/\v=v':=by
 unfold cP_ at h;simp only [D4,and_true] at h;exact⟨by lia,by lia,h.2.2⟩
def kM_ (q:Nat) (F:Nat->Nat->Int) (d:Nat):List (List Int):=(List.range (q*d)).flatMap fun s=>if F d (s+1)=0 then [] else [cP_ d (s+1) (F d (s+1))]
def fn_ (q:Nat) (F:Nat->Nat->Int) (n:Nat):List (List Int):=(List.range n).flatMap fun i=>kM_ q F (i+1)
theorem dx_ {q:Nat}{F:Nat->Nat->Int}{d:Nat}{x:List Int}:x∈kM_ q F d↔∃s,1<=s/\s<=q*d/\F d s≠0/\x=cP_ d s (F d s):=by
 unfold kM_;rw [At];constructor
 .rintro⟨s,hs,h⟩;have hs:=AV.mp hs;by_cases e:F d (s+1)=0
  .rw [A7 e] at h;exact nomatch h
  .rw [A5 e] at h;exact⟨s+1,by lia,by lia,e,AS.mp h⟩
 .rintro⟨s,h1,h2,h3,rfl⟩;obtain⟨r,rfl⟩:∃r,s=r+1:=⟨s-1,by lia⟩;exact⟨r,AV.mpr (by lia),by rw [A5 h3];exact AS.mpr rfl⟩
theorem h5_ {q n:Nat}{F:Nat->Nat->Int} (hF:FOk q n F) {x:List Int}:x∈fn_ q F n↔∃d s,F d s≠0/\x=cP_ d s (F d s):=by
 unfold fn_;rw [At];constructor
 .rintro⟨i,_,h⟩;obtain⟨s,_,_,h3,e⟩:=dx_.mp h;exact⟨i+1,s,h3,e⟩
 .rintro⟨d,s,h,rfl⟩;obtain⟨a,b,c,e⟩:=hF d s h;obtain⟨r,rfl⟩:∃r,d=r+1:=⟨d-1,by lia⟩;exact⟨r,AV.mpr (by lia),dx_.mpr ⟨s,c,e,h,rfl⟩⟩
theorem lU_ {q:Nat}{F:Nat->Nat->Int}{d:Nat}:(kM_ q F d).length<=q*d:=by
 unfold kM_;generalize q*d=m;induction m with
 |zero=>simp
 |succ m ih=>
  rw [Au,B0,AC];have:((List.flatMap (fun s=>if F d (s+1)=0 then [] else [cP_ d (s+1) (F d (s+1))]) [m]).length)<=1:=by
   simp only [BD,CS,Av];split<;>simp
  lia
theorem ni_ {q n:Nat}{F:Nat->Nat->Int} (hq:Sz q n):(fn_ q F n).length<=60:=by
 obtain⟨h1,h2,h3⟩:=hq;have r:=fun d=>lU_ (q:=q) (F:=F) (d:=d);have r1:=r 1;have r2:=r 2;have r3:=r 3;have r4:=r 4;have:n=1\/n=2\/n=3\/n=4:=by lia
 rcases this with e|e|e|e<;>subst e<;>simp only [fn_,Au,List.range_zero,List.nil_append,List.cons_append,BD,CS,Av,AC]<;>simp only [Nat.zero_add,Nat.reduceAdd]<;>lia
def Asc (xs:List (List Int)):Prop:=xs.Pairwise fun a b=>ff_ false (a.take 2) (b.take 2)=true
theorem i8_ {d s d' s':Nat}{v v':Int}:ff_ false ((cP_ d s v).take 2) ((cP_ d' s' v').take 2)=true↔d<d'\/d=d'/\s<s':=by
 unfold cP_;simp only [BR,List.take_zero,ff_];by_cases e:(d:Int)=d'
 .rw [A7 e];by_cases e2:(s:Int)=s'
  .rw [A7 e2];constructor
   .intro h;cases h
   .intro h;lia
  .rw [A5 e2,B'];lia
 .rw [A5 e,B'];lia
theorem h6_ (q n:Nat) (F:Nat->Nat->Int):Asc (fn_ q F n):=by
 unfold Asc fn_;refine Cw.mpr ⟨fun i _=> ?_, ?_⟩
 .unfold kM_;refine Cw.mpr ⟨fun s _=> ?_, ?_⟩
  .split<;>simp
  .refine Co.imp fun{a b} hab x hx y hy=> ?_;by_cases e1:F (i+1) (a+1)=0
   .rw [A7 e1] at hx;exact nomatch hx
   by_cases e2:F (i+1) (b+1)=0
   .rw [A7 e2] at hy;exact nomatch hy
   rw [A5 e1] at hx;rw [A5 e2] at hy;rw [AS.mp hx,AS.mp hy];exact i8_.mpr (by lia)
 .refine Co.imp fun{a b} hab x hx y hy=> ?_;obtain⟨s,_,_,_,rfl⟩:=dx_.mp hx;obtain⟨t,_,_,_,rfl⟩:=dx_.mp hy;exact i8_.mpr (by lia)
theorem jX_:∀(x:List Int),ff_ false x x=false
 |[]=>rfl
 |a::r=>by unfold ff_;rw [A7 rfl];exact jX_ r
theorem Asc.nodup {xs:List (List Int)} (h:Asc xs):xs.Nodup:=List.Pairwise.imp (fun{a b} k e=>by subst e;rw [jX_] at k;cases k) h
theorem q2_ {xs ys:List (List Int)} (hx:Asc xs) (hy:Asc ys) (h:∀r,r∈xs↔r∈ys):xs=ys:=by
 have hp:xs.Perm ys:=(List.perm_ext_iff_of_nodup hx.nodup hy.nodup).mpr h;refine hp.eq_of_pairwise (le:=fun(a b:List Int)=>ff_ false (a.take 2) (b.take 2)=true) (fun a b _ _ e1 e2=> ?_) hx hy;exfalso;have:ff_ false (b.take 2) (a.take 2)=false:=by
  generalize a.take 2=u at e1 e2;generalize b.take 2=v at e1 e2;clear hx hy h hp;induction u generalizing v with
  |nil=>cases v<;>cases e1
  |cons x u ih=>
   cases v with
   |nil=>cases e1
   |cons y v=>
    unfold ff_ at e1 e2⊢;by_cases e:x=y
    .rw [A7 e] at e1;rw [A7 e.symm] at e2⊢;exact ih v e1 e2
    .rw [A5 e,B'] at e1;rw [A5 fun z=>e z.symm,B'] at e2;lia
 rw [this] at e2;cases e2
theorem lF_ {q n:Nat}{F:Nat->Nat->Int} (hF:FOk q n F) {xs ys:List (List Int)} (nd:xs.Nodup) (mem:∀r,r∈xs↔∃d s,F d s≠0/\r=cP_ d s (F d s)) (hp:ys.Perm xs) (so:∀i j,i<j->j<ys.length->ltI (ys.getD j []) (ys.getD i [])=false):ys=fn_ q F n:=by
 have my:∀r,r∈ys↔∃d s,F d s≠0/\r=cP_ d s (F d s):=fun r=>hp.mem_iff.trans (mem r);have ny:ys.Nodup:=hp.nodup_iff.mpr nd;refine q2_ ?_ (h6_ q n F) fun r=>(my r).trans (h5_ hF).symm;unfold Asc;rw [Bf];intro i j hi hj hij;have h:=so i j hij hj;rw [A8,A8,A3 hi,A3 hj,Option.getD_some,Option.getD_some] at h;have hne:ys[i]≠ys[j]:=Bf.mp ny i j hi hj hij;obtain⟨d,s,_,e1⟩:=(my _).mp (CQ hi);obtain⟨d',s',_,e2⟩:=(my _).mp (CQ hj);rw [e1,e2] at hne h⊢;rw [i8_];rw [gs_ (by rfl)] at h;unfold cP_ at h;simp only [ff_] at h;by_cases e:(d':Int)=d
 .rw [A7 e] at h;by_cases e3:(s':Int)=s
  .exfalso;obtain rfl:d'=d:=by lia
   obtain rfl:s'=s:=by lia
   exact hne rfl
  .rw [A5 e3,decide_eq_false_iff_not] at h;lia
 .rw [A5 e,decide_eq_false_iff_not] at h;lia
theorem mp_:∀{n:Nat}{l:List Nat},l.Nodup->(∀x∈l,x<n)->l.length<=n
 |0,l,_,h=>by
  cases l with
  |nil=>simp
  |cons a r=>exact absurd (h a AX) (by lia)
 |n+1,l,nd,h=>by
  by_cases hn:n∈l
  .have:=mp_ (n:=n) (nd.erase n) fun x hx=>by
    have h1:=(nd.mem_erase_iff).mp hx;have:=h x h1.2;have:=h1.1;lia
   rw [List.length_erase_of_mem hn] at this;lia
  .have:=mp_ (n:=n) nd fun x hx=>by
    have:=h x hx;have:x≠n:=fun e=>hn (e▸hx);lia
   lia
def dM_ (m:Nat) (xs:List (Nat×Int)):Prop:=(xs.map (·.1)).Nodup/\∀x∈xs,1<=x.1/\x.1<=m
theorem dM_.nil (m:Nat):dM_ m []:=⟨List.nodup_nil,fun _ h=>nomatch h⟩
theorem dM_.keys {m:Nat}{xs:List (Nat×Int)} (h:dM_ m xs):∀k∈xs.map (·.1),1<=k/\k<=m:=fun k hk=>by
 obtain⟨x,hx,rfl⟩:=Af.mp hk;exact h.2 x hx
theorem dM_.put {m k:Nat}{v:Int}{xs:List (Nat×Int)} (h:dM_ m xs) (h1:1<=k) (h2:k<=m):dM_ m (nz_ xs k v):=by
 refine⟨kV_ h.1 k v,fun x hx=> ?_⟩;have hk:x.1∈(nz_ xs k v).map (·.1):=Af.mpr ⟨x,hx,rfl⟩;rw [hK_] at hk;by_cases e:k∈xs.map (·.1)
 .rw [A7 e] at hk;exact h.keys _ hk
 .rw [A5 e] at hk;rcases Bd.mp hk with hk|hk
  .exact h.keys _ hk
  .rw [AS.mp hk];exact⟨h1,h2⟩
theorem dM_.len {m:Nat}{xs:List (Nat×Int)} (h:dM_ m xs):xs.length<=m+1:=by
 have:=mp_ h.1 (n:=m+1) fun k hk=>by have:=h.keys k hk;lia
 rwa [A1] at this
theorem pI_ {k:Nat}{v:Int}:∀{xs:List (Nat×Int)},(xs.map (·.1)).Nodup->(k,v)∈xs->vF xs k=v
 |[],_,h=>nomatch h
 |(j,a)::r,nd,h=>by
  rw [AK,BN] at nd;unfold vF;rcases AJ.mp h with e|h
  .cases e;rw [A7 rfl]
  .have:k∈r.map (·.1):=Af.mpr ⟨_,h,rfl⟩;rw [A5 fun e:k=j=>nd.1 (e▸this),pI_ nd.2 h]
theorem lu_ {k:Nat}:∀{xs:List (Nat×Int)},vF xs k≠0->(k,vF xs k)∈xs
 |[],h=>absurd rfl h
 |(j,a)::r,h=>by
  unfold vF at h⊢;by_cases e:k=j
  .rw [A7 e];subst e;exact AX
  .rw [A5 e] at h⊢;exact AR _ (lu_ h)
theorem dM_.val {m s:Nat}{xs:List (Nat×Int)} (h:dM_ m xs) (hs:vF xs s≠0):1<=s/\s<=m:=h.2 _ (lu_ hs)
def im_ (d:Nat) (xs:List (Nat×Int)):List (List Int):=xs.flatMap fun x=>if x.2=0 then [] else [cP_ d x.1 x.2]
def fnd (X:Nat->List (Nat×Int)) (g:Nat):List (List Int):=(List.range g).flatMap fun i=>im_ (i+1) (X (i+1))
def ny_ (g:Nat) (X:Nat->List (Nat×Int)) (d s:Nat):Int:=if 1<=d/\d<=g then vF (X d) s else 0
theorem kj_ {d:Nat}{xs:List (Nat×Int)} (nd:(xs.map (·.1)).Nodup) {r:List Int}:r∈im_ d xs↔∃s,vF xs s≠0/\r=cP_ d s (vF xs s):=by
 unfold im_;rw [At];constructor
 .rintro⟨⟨k,v⟩,hx,h⟩;by_cases e:v=0
  .rw [A7 e] at h;exact nomatch h
  .rw [A5 e] at h;have:=pI_ nd hx;exact⟨k,by rw [this];exact e,by rw [this];exact AS.mp h⟩
 .rintro⟨s,h,rfl⟩;exact⟨_,lu_ h,by rw [A5 h];exact AS.mpr rfl⟩
theorem jf_ {X:Nat->List (Nat×Int)}{g:Nat} (nd:∀d,1<=d->d<=g->((X d).map (·.1)).Nodup) {r:List Int}:r∈fnd X g↔∃d s,ny_ g X d s≠0/\r=cP_ d s (ny_ g X d s):=by
 unfold fnd ny_;rw [At];constructor
 .rintro⟨i,hi,h⟩;have hi:=AV.mp hi;obtain⟨s,h1,h2⟩:=(kj_ (nd (i+1) (by lia) (by lia))).mp h;exact⟨i+1,s,by rw [A7 (by lia)];exact h1,by rw [A7 (by lia)];exact h2⟩
 .rintro⟨d,s,h1,h2⟩;by_cases hd:1<=d/\d<=g
  .rw [A7 hd] at h1 h2;obtain⟨i,rfl⟩:∃i,d=i+1:=⟨d-1,by lia⟩;exact⟨i,AV.mpr (by lia),(kj_ (nd (i+1) (by lia) (by lia))).mpr ⟨s,h1,h2⟩⟩
  .rw [A5 hd] at h1;exact absurd rfl h1
theorem hW_ {X:Nat->List (Nat×Int)}{g:Nat} (nd:∀d,1<=d->d<=g->((X d).map (·.1)).Nodup):(fnd X g).Nodup:=by
 unfold fnd;refine Cw.mpr ⟨fun i hi=> ?_, ?_⟩
 .have hi:=AV.mp hi;have n:=nd (i+1) (by lia) (by lia);unfold im_;refine Cw.mpr ⟨fun x _=> ?_, ?_⟩
  .split<;>simp
  .refine(Cn.mp n).imp fun{a b} hab u hu v hv=> ?_;by_cases e1:a.2=0
   .rw [A7 e1] at hu;exact nomatch hu
   by_cases e2:b.2=0
   .rw [A7 e2] at hv;exact nomatch hv
   rw [A5 e1] at hu;rw [A5 e2] at hv;rw [AS.mp hu,AS.mp hv];exact fun e=>hab (et_ e).2.1
 .refine Co.imp fun{a b} hab u hu v hv e=> ?_;unfold im_ at hu hv;obtain⟨x,_,hu⟩:=At.mp hu;obtain⟨y,_,hv⟩:=At.mp hv;by_cases e1:x.2=0
  .rw [A7 e1] at hu;exact nomatch hu
  by_cases e2:y.2=0
  .rw [A7 e2] at hv;exact nomatch hv
  rw [A5 e1] at hu;rw [A5 e2] at hv;rw [AS.mp hu,AS.mp hv] at e;have:=(et_ e).1;lia
theorem qS_ {X:Nat->List (Nat×Int)}{q n g:Nat} (hq:Sz q n) (hF:FOk q n (ny_ g X)) (nd:∀d,1<=d->d<=g->((X d).map (·.1)).Nodup):(fnd X g).length<=60:=by
 have hp:(fnd X g).Perm (fn_ q (ny_ g X) n):=(List.perm_ext_iff_of_nodup (hW_ nd) (h6_ q n _).nodup).mpr fun r=>(jf_ nd).trans (h5_ hF).symm;rw [hp.length_eq];exact ni_ hq
theorem kk_ {d:Nat}{xs:List (Nat×Int)}{j:Nat}{x:Nat×Int} (h:xs[j]? =some x):im_ d (xs.take (j+1))=im_ d (xs.take j)++if x.2=0 then [] else [cP_ d x.1 x.2]:=by
 unfold im_;rw [AZ,h,B0];simp
theorem jg_ (X:Nat->List (Nat×Int)) (g:Nat):fnd X (g+1)=fnd X g++im_ (g+1) (X (g+1)):=by
 unfold fnd;rw [Au,B0];simp
def dN_ (b:Nat->Addr) (g:Nat):List (Key×V):=(List.range g).map fun i=>(.inl ((i+1:Nat):Int), .ref (b (i+1)))
theorem ga_ (b:Nat->Addr) (g:Nat):(dN_ b g).length=g:=by unfold dN_;rw [A1,BI]
theorem mj_ {b:Nat->Addr}{g i:Nat} (h:i<g):(dN_ b g)[i]? =some (.inl ((i+1:Nat):Int), .ref (b (i+1))):=by
 unfold dN_;rw [A9,List.getElem?_range h];rfl
theorem ev_ {b:Nat->Addr}{d:Nat}:∀{g:Nat},dq_ (dN_ b g) (.inl (d:Int))=if 1<=d/\d<=g then some (.ref (b d)) else none
 |0=>by rw [A5 (by lia)];rfl
 |g+1=>by
  have e:dN_ b (g+1)=dN_ b g++[(.inl ((g+1:Nat):Int), .ref (b (g+1)))]:=by unfold dN_;rw [Au,AG];rfl
  rw [e,g0_ _ _ _ _ (by rw [ev_,A5 (by lia)]),ev_];by_cases h:d=g+1
  .subst h;rw [A7 rfl,A7 (by lia)]
  .rw [A5 fun z=>h (b8_.mp z)];by_cases h2:1<=d/\d<=g
   .rw [A7 h2,A7 (by lia)]
   .rw [A5 h2,A5 (by lia)]
theorem ob_ {b:Nat->Addr}{d g:Nat} (h1:1<=d) (h2:d<=g):dq_ (dN_ b g) (.inl (d:Int))=some (.ref (b d)):=by rw [ev_,A7 ⟨h1,h2⟩]
theorem kS_ {b b':Nat->Addr}{g:Nat} (h:∀d,1<=d->d<=g->b d=b' d):dN_ b g=dN_ b' g:=by
 unfold dN_;refine Ao fun i hi=> ?_;have:=AV.mp hi;rw [h (i+1) (by lia) (by lia)]
theorem oa_ (b:Nat->Addr) (g:Nat) (p:Addr):dy_ (dN_ b g) (.inl ((g+1:Nat):Int)) (.ref p)=dN_ (fun d=>if d=g+1 then p else b d) (g+1):=by
 unfold dy_;rw [A5 (by rw [ep_,ev_,A5 (by lia)];simp)];have e:dN_ (fun d=>if d=g+1 then p else b d) (g+1)=dN_ (fun d=>if d=g+1 then p else b d) g++[(.inl ((g+1:Nat):Int), .ref p)]:=by
  unfold dN_;rw [Au,AG];simp
 rw [e,kS_ (b:=b) (b':=fun d=>if d=g+1 then p else b d) fun d h1 h2=>(A5 (by lia)).symm]
def Fz (H H':Hp):Prop:=∀a u,H a=some u->H' a=some u\/∃kvs o,(u= .dK kvs\/∃o',u= .frz o' (.dK kvs))/\H' a=some (.frz o (.dK kvs))
def Pz (x y:Option HO):Prop:=∀u,x=some u->y=some u\/∃kvs o,(u= .dK kvs\/∃o',u= .frz o' (.dK kvs))/\y=some (.frz o (.dK kvs))
theorem Pz.of_eq {x y:Option HO} (h:y=x):Pz x y:=fun u e=> .inl (h.trans e)
theorem Pz.frz {H H':Hp}{c:Addr}{o:Obj}{kvs:List (Key×V)} (h:Rd H c (.dK kvs)) (e:H' c=some (.frz o (.dK kvs))):Pz (H c) (H' c):=by
 intro u hu;rcases h with h|⟨o',h⟩
 .rw [h] at hu;cases hu;exact .inr ⟨kvs,o, .inl rfl,e⟩
 .rw [h] at hu;cases hu;exact .inr ⟨kvs,o, .inr ⟨_,rfl⟩,e⟩
theorem Pz.trans {x y z:Option HO} (a:Pz x y) (b:Pz y z):Pz x z:=by
 intro u e;rcases a u e with e1|⟨kvs,o,e1,e2⟩
 .exact b u e1
 .rcases b _ e2 with e3|⟨k2,o2,e3|⟨o3,e3⟩,e4⟩
  .exact .inr ⟨kvs,o,e1,e3⟩
  .cases e3
  .cases e3;exact .inr ⟨kvs,o2,e1,e4⟩
theorem Pz.rd {H H':Hp}{a:Addr} (z:Pz (H a) (H' a)) {kvs:List (Key×V)} (h:Rd H a (.dK kvs)):Rd H' a (.dK kvs):=by
 rcases h with h|⟨o,h⟩
 .rcases z _ h with e|⟨k2,o2,e1|⟨o3,e1⟩,e2⟩
  .exact .inl e
  .cases e1;exact .inr ⟨_,e2⟩
  .cases e1
 .rcases z _ h with e|⟨k2,o2,e1|⟨o3,e1⟩,e2⟩
  .exact .inr ⟨_,e⟩
  .cases e1
  .cases e1;exact .inr ⟨_,e2⟩
theorem Fz.rd {H H':Hp} (z:Fz H H') {a:Addr}{kvs:List (Key×V)} (h:Rd H a (.dK kvs)):Rd H' a (.dK kvs):=Pz.rd (z a) h
theorem Fz.trans {H H1 H2:Hp} (a:Fz H H1) (b:Fz H1 H2):Fz H H2:=fun x=>Pz.trans (a x) (b x)
theorem Fz.of_same {H H':Hp} (s:an_ H H'):Fz H H':=fun _ _ e=> .inl (s _ _ e)
theorem Fz.lts {H H':Hp} (z:Fz H H'):LTS H H':=by
 refine⟨fun b xs e=> ?_,fun b xs e=> ?_⟩
 .rcases z _ _ e with h|⟨k,o,h|⟨o',h⟩,_⟩
  .exact h
  .cases h
  .cases h
 .rcases z _ _ e with h|⟨k,o,h|⟨o',h⟩,_⟩
  .exact h
  .cases h
  .cases h
theorem Fz.free {H H':Hp} (z:Fz H H') {a:Addr} (h:H' a=none):H a=none:=by
 cases e:H a with
 |none=>rfl
 |some u=>rcases z _ _ e with h2|⟨_,_,_,h2⟩<;>rw [h] at h2<;>cases h2
theorem Fz.walk {H H':Hp}{d:Addr}{o:Obj}{kvs:List (Key×V)} (h:Rd H d (.dK kvs)) (e:H' d=some (.frz o (.dK kvs))) (k:∀b,b≠d->H' b=H b):Fz H H':=by
 intro a;by_cases hd:a=d
 .subst hd;exact Pz.frz h e
 .exact Pz.of_eq (k a hd)
theorem Fz.put {H H1:Hp} (z:Fz H H1) {p:Addr} (n:H p=none) {o:HO}:Fz H (upd H1 p o):=fun a u e=>by
 have:a≠p:=by rintro rfl;rw [n] at e;cases e
 rw [ak_ this];exact z a u e
def Tb (q g:Nat) (H:Hp) (a:Addr) (b:Nat->Addr) (X:Nat->List (Nat×Int)):Prop:=Rd H a (.dK (dN_ b g))/\∀d,1<=d->d<=g->Rd H (b d) (.dK (dI (X d)))/\dM_ (q*d) (X d)
theorem Tb.fz {q g:Nat}{H H':Hp}{a:Addr}{b:Nat->Addr}{X:Nat->List (Nat×Int)} (t:Tb q g H a b X) (z:Fz H H'):Tb q g H' a b X:=⟨z.rd t.1,fun d h1 h2=>⟨z.rd (t.2 d h1 h2).1,(t.2 d h1 h2).2⟩⟩
theorem sO_ {H:Hp}{a:Addr}{xs:List (Nat×Int)} (h:Rd H a (.dK (dI xs))) {k:Nat} (hk:k∈xs.map (·.1)):nF_ H a (.int (k:Int)) (some (.int (vF xs k))):= .inl ⟨dI xs, .inl (k:Int),h,rfl,by rw [sM_,A7 hk]⟩
theorem iR_ {H:Hp}{a:Addr}{b:Nat->Addr}{g:Nat} (h:Rd H a (.dK (dN_ b g))) {d:Nat} (h1:1<=d) (h2:d<=g):nF_ H a (.int (d:Int)) (some (.ref (b d))):= .inl ⟨dN_ b g, .inl (d:Int),h,rfl,by rw [ob_ h1 h2]⟩
theorem g1_ {H H':Hp} (s:∀b xs,H b=some (.tup xs)->H' b=some (.tup xs)):∀{xs:List (List Int)}{vs:List V},Iss H (xs.map tI) vs->Iss H' (xs.map tI) vs
 |[],_,h=>by rw [bf_ h];exact am_
 |x::xs,_,h=>by
  obtain⟨u,us,rfl,q,r⟩:=aw_ h;obtain⟨a,rfl,ha⟩:=bS_ q;exact ai_ (e3_ (s _ _ ha)) (g1_ s r)
theorem us_ {xs:List (Nat×Int)}{i:Nat}{k:Key}{v:V} (h:(dI xs)[i]? =some (k,v)):∃x,xs[i]? =some x/\k= .inl (x.1:Int):=by
 unfold dI at h;rw [A9] at h;obtain⟨x,hx,e⟩:=A4.mp h;cases e;exact⟨x,hx,rfl⟩
theorem px_ (xs:List (Nat×Int)):(dI xs).length=xs.length:=by unfold dI;rw [A1]
def cL:List (List Int):=[[],[1],[1,3],[1,12,21,15],[1,27,225,675,666,378,105]]
def cT (d k:Nat):Int:=(cL.getD d []).getD k 0
def ptF (d:Nat):Nat:=d*(d+3)/2
def dX_ (g:Nat):List (List Int):=(List.range g).flatMap fun i=>(List.range ((i+1)*i/2+1)).map fun k=>cP_ (i+1) (ptF (i+1)-k) (cT (i+1) k)
def Ft (g d s:Nat):Int:=if 1<=d/\d<=g/\s<=ptF d then cT d (ptF d-s) else 0
def th_ (d s:Nat):List (List Int):=if ptF d-s<=6/\cT d (ptF d-s)≠0 then [cP_ d s (cT d (ptF d-s))] else []
def m4_ (g:Nat):List (List Int):=(List.range g).flatMap fun i=>(List.range (ptF (i+1))).flatMap fun j=>th_ (i+1) (j+1)
theorem sG_:∀g,g<5->fn_ 4 (Ft g) g=m4_ g:=by ac_nf
theorem s7_:((List.range 5).all fun g=>(List.range 5).all fun d=>(List.range 20).all fun s=>decide (Ft g d s=0)||(decide (1<=d)&&decide (d<=g)&&decide (1<=s)&&decide (s<=4*d)&&decide (cP_ d s (Ft g d s)∈dX_ g)))=true:=by ac_nf
theorem nx_ {g d s:Nat} (hg:g<5) (h:Ft g d s≠0):1<=d/\d<=g/\1<=s/\s<=4*d/\cP_ d s (Ft g d s)∈dX_ g:=by
 have hd:1<=d/\d<=g/\s<=ptF d:=By fun c=>h (A5 c);have:∀d,d<5->ptF d<20:=by decide
 have:=this d (by lia);have:=Al.mp (Al.mp (Al.mp s7_ g (AV.mpr hg)) d (AV.mpr (by lia))) s (AV.mpr (by lia));simp only [CZ,AN,B'] at this;obtain⟨⟨⟨⟨a,b⟩,c⟩,e⟩,f⟩:=this.resolve_left h;exact⟨a,b,c,e,f⟩
theorem uz_ {g:Nat} (hg:g<5):FOk 4 g (Ft g):=fun d s h=>by
 obtain⟨a,b,c,e,_⟩:=nx_ hg h;exact⟨a,b,c,e⟩
theorem s6_ {g:Nat} (h1:1<=g) (hg:g<5):Sz 4 g:=⟨by lia,h1,by lia⟩
theorem hg_:∀g,g<5->∀r∈dX_ g,Ft g (r.getD 0 0).toNat (r.getD 1 0).toNat≠0/\r=cP_ (r.getD 0 0).toNat (r.getD 1 0).toNat (Ft g (r.getD 0 0).toNat (r.getD 1 0).toNat):=by ac_nf
theorem lS_ {g:Nat} (hg:g<5) {r:List Int}:r∈dX_ g↔∃d s,Ft g d s≠0/\r=cP_ d s (Ft g d s):=by
 constructor
 .intro h;exact⟨_,_,(hg_ g hg r h).1,(hg_ g hg r h).2⟩
 .rintro⟨d,s,h,rfl⟩;exact(nx_ hg h).2.2.2.2
theorem sX_:∀e:Nat,e<4->∀k:Nat,k<7->cF ⟨((e+1:Nat):Int),(k:Int),hm_ (e+1) [],hm_ (e+1) [((e+1:Nat):Int)]⟩=cT (e+1) k/\ut_ (e+1) k=cT (e+1) k/\0<=cT (e+1) k/\cT (e+1) k<1000:=by ac_nf
theorem sW_ {d k:Nat} (d1:1<=d) (d4:d<=4) (k6:k<=6):cF ⟨(d:Int),(k:Int),hm_ d [],hm_ d [(d:Int)]⟩=cT d k/\ut_ d k=cT d k/\0<=cT d k/\cT d k<1000:=by
 obtain⟨e,rfl⟩:∃e,d=e+1:=⟨d-1,by lia⟩;exact sX_ e (by lia) k (by lia)
theorem sh_ {α:Type} [DecidableEq α]:∀{l L:List α},l.Nodup->(∀x∈l,x∈L)->l.length<=L.length
 |[],L,_,_=>AM _
 |x::r,L,nd,h=>by
  rw [BN] at nd;have hx:x∈L:=h x AX;have:=sh_ (L:=L.erase x) nd.2 fun y hy=>(List.mem_erase_of_ne fun e:y=x=>nd.1 (e▸hy)).mpr (h y (AR _ hy));rw [List.length_erase_of_mem hx] at this;have:=List.length_pos_of_mem hx;rw [AY];lia
section
variable {κ:Type} [DecidableEq κ]
def tK (R:List (κ×Int)):List (κ×V):=R.map fun x=>(x.1,V.int x.2)
def nD_:List (κ×Int)->κ->Int
 |[],_=>0
 |(a,b)::r,k=>if a=k then b else nD_ r k
def ik_:List (κ×Int)->κ->Int->List (κ×Int)
 |[],k,v=>[(k,v)]
 |(a,b)::r,k,v=>if a=k then(a,v)::r else(a,b)::ik_ r k v
theorem rv_ (R:List (κ×Int)):(tK R).length=R.length:=by unfold tK;rw [A1]
theorem jw_ (k:κ):∀R:List (κ×Int),dq_ (tK R) k=if k∈R.map (·.1) then some (.int (nD_ R k)) else none
 |[]=>rfl
 |(a,b)::r=>by
  have ih:=jw_ k r;show dq_ ((a,V.int b)::tK r) k=_;by_cases e:a=k
  .subst e;rw [bD_ rfl];simp [nD_]
  .rw [bE_ e,ih];have:¬k=a:=fun z=>e z.symm;show _=if k∈a::r.map (·.1) then some (V.int (if a=k then b else nD_ r k)) else none
   rw [A5 e];by_cases h:k∈r.map (·.1)
   .rw [A7 h,A7 (AR _ h)]
   .rw [A5 h,A5 fun z=>(AJ.mp z).elim this h]
theorem g7_ (k:κ) (v:Int):∀R:List (κ×Int),(ik_ R k v).map (·.1)=if k∈R.map (·.1) then R.map (·.1) else R.map (·.1)++[k]
 |[]=>by simp [ik_]
 |(a,b)::r=>by
  have ih:=g7_ k v r;unfold ik_;by_cases e:a=k
  .subst e;simp
  .rw [A5 e,AK,ih];have:¬k=a:=fun z=>e z.symm;show _=if k∈a::r.map (·.1) then a::r.map (·.1) else a::r.map (·.1)++[k]
   by_cases h:k∈r.map (·.1)
   .rw [A7 h,A7 (AR _ h)]
   .rw [A5 h,A5 fun z=>(AJ.mp z).elim this h];rfl
theorem p1_ {k:κ}{v:Int}{R:List (κ×Int)} (h:(R.map (·.1)).Nodup):((ik_ R k v).map (·.1)).Nodup:=by
 rw [g7_];by_cases e:k∈R.map (·.1)
 .rw [A7 e];exact h
 .rw [A5 e];refine List.nodup_append.mpr ⟨h,by simp,fun a ha b hb z=> ?_⟩;rw [AS.mp hb] at z;exact e (z▸ha)
theorem jB_ {k:κ}{v:Int}:∀{R:List (κ×Int)}{x:κ×Int},x∈ik_ R k v->x∈R\/x=(k,v)
 |[],x,h=> .inr (AS.mp h)
 |(a,b)::r,x,h=>by
  unfold ik_ at h;by_cases e:a=k
  .rw [A7 e] at h;rcases AJ.mp h with h|h
   .exact .inr (by rw [h,e])
   .exact .inl (AR _ h)
  .rw [A5 e] at h;rcases AJ.mp h with h|h
   .exact .inl (by rw [h];exact AX)
   .exact(jB_ h).imp (AR _) id
theorem oZ_ {k:κ}{v:Int}:∀{R:List (κ×Int)},(R.map (·.1)).Nodup->dy_ (tK R) k (.int v)=tK (ik_ R k v)
 |[],_=>rfl
 |(a,b)::r,nd=>by
  rw [AK,BN] at nd;have ih:=oZ_ (k:=k) (v:=v) nd.2;unfold dy_ at ih⊢;show(if(((a,V.int b)::tK r).any fun kv=>decide (kv.1=k))=true then _ else _)=_;rw [List.any_cons];by_cases e:a=k
  .subst e;rw [BF rfl,Bool.true_or,A7 rfl];unfold ik_;rw [A7 rfl];show((a,V.int b)::tK r).map _=(a,V.int v)::tK r;rw [AK,A7 rfl];congr 1
   conv=>rhs;rw [<-List.map_id (tK r)]
   refine Ao fun x hx=> ?_;obtain⟨y,hy,rfl⟩:=Af.mp hx;rw [A5 fun z=>nd.1 (Af.mpr ⟨y,hy,z⟩)];rfl
  .rw [Ak e,Bool.false_or];unfold ik_;rw [A5 e];show _=(a,V.int b)::tK (ik_ r k v);rw [<-ih];by_cases c:((tK r).any fun kv=>decide (kv.1=k))=true
   .rw [A7 c,A7 c];show((a,V.int b)::tK r).map _=_;rw [AK,A5 e]
   .rw [A5 c,A5 c];rfl
end
def But (b:Addr) (H H':Hp):Prop:=∀c o,H c=some o->c≠b->H' c=some o
theorem sY_ {z:Int} (h0:0<z) (h1:z<=10^60):z≠0/\z.natAbs<2^512:=by
 have:(10:Nat)^60<2^512:=by decide
 constructor<;>lia
theorem But.of_same {b:Addr}{H H':Hp} (s:an_ H H'):But b H H':=fun c o e _=>s _ _ e
theorem But.trans {b:Addr}{H H' H'':Hp} (s:But b H H') (t:But b H' H''):But b H H'':=fun c o e n=>t c o (s c o e n) n
theorem But.upd {b:Addr}{H:Hp}{o:HO}:But b H (L2.upd H b o):=fun c u e n=>by rw [ak_ n];exact e
theorem But.same {b:Addr}{H H1 H2:Hp} (s:an_ H H1) (nb:H b=none) (t:But b H1 H2):an_ H H2:=fun c o e=>t c o (s c o e) (by rintro rfl;rw [nb] at e;cases e)
theorem oK_ {vs:List V}{k:Nat}:kr_ vs none (some (k:Int))=vs.take k:=by
 unfold kr_;rw [HT.sIx_nat,HT.sIx_none,List.drop_zero,Nat.sub_zero];exact List.take_eq_take_iff.mpr (by lia)
def rL_ (K:W.Frag):Sp:=fun vs H Q _=>∃(a:Addr) (ns:List Int) (k:Int),vs=[.ref a, .int k]/\SqL K H a (ns.map V.int)/\0<=k/\∀z,Q (.int z) H
def jy_ (K:W.Frag):Sp:=fun vs H Q _=>∃(a:Addr) (ns:List Int),vs=[.ref a]/\SqL K H a (ns.map V.int)/\ns.length<=63/\∀H',Q (.bl true) H'
def pX_ (_:W.Frag):Sp:=fun vs H Q _=>∃x:Int,vs=[.int x]/\∀z,0<=z->Q (.int z) H
def tX_ (_:W.Frag):Sp:=fun vs H Q _=>∃(b:Addr) (m z:Int),vs=[.ref b, .int m]/\H b=some (.lst [.int z])/\0<=z/\0<m/\m<=10^60/\∀y z',0<=y->y<m->0<=z'->Q (.int y) (upd H b (.lst [.int z']))
def stD (x:List Lf×Int):D:= .t [lfs x.1, .i x.2]
def Lok (p:Lf):Prop:=0<=p.2.1-p.1/\p.2.1-p.1<=10/\1<=p.2.2/\p.2.2<=20
def rM_ (_:W.Frag):Sp:=fun vs H Q _=>∃i lo hi:Int,vs=[.int i, .int lo, .int hi]/\lo<=i/\i<=hi/\Q .non H
def rK_ (_:W.Frag):Sp:=fun vs H Q _=>∃i:Int,vs=[.int i]/\1<=i/\i<=5/\Q .non H
def rD_ (_:W.Frag):Sp:=fun vs H Q _=>∃d k:Nat,vs=[.int d, .int k]/\Wide d k/\Q .non H
def rI_ (_:W.Frag):Sp:=fun vs H Q _=>∃(n:Nat) (dv:V) (ps:List Lf),vs=[.int n,dv]/\1<=n/\n<=5/\Is H (lfs ps) dv/\(∀p∈ps,Okl n p)/\∀l H',an_ H H'->H l=none->H' l=some (.lst ((bx_ n ps).map V.int))->Q (.ref l) H'
def rF_ (_:W.Frag):Sp:=fun vs H Q _=>∃(v:V) (p:Lf),vs=[v]/\Is H (lf p) v/\Lok p/\Q (.int (bK_ p)) H
def tR_ (_:W.Frag):Sp:=fun vs H Q _=>∃(d f n:Nat) (sp:Int),vs=[.int d, .int f, .int n, .int sp]/\f<=d/\d<=5/\n<=20/\∀l H',an_ H H'->H l=none->Is H' (lfs (kY_ f (d-f) n sp)) (.ref l)->Q (.ref l) H'
def rG_ (n:Nat) (_:W.Frag):Sp:=fun vs H Q _=>∃(v:V) (ls:List Lf) (wt sp:Int),vs=[v, .int wt, .int sp]/\Is H (lfs ls) v/\(∀p∈ls,Lok p)/\0<=wt/\wt<n/\(cU_ n ls wt sp).length<=1000/\ls.length<=200/\n<=100/\
 ∀l H',an_ H H'->H l=none->Is (nw H H') (.l ((cU_ n ls wt sp).map lfs)) (.ref l)->Q (.ref l) H'
def rC_ (_:W.Frag):Sp:=fun vs H Q _=>∃(d f:Nat) (v:V) (x:List Lf×Int),vs=[.int d, .int ((f+1:Nat):Int),v, .int x.2]/\f<d/\d<=5/\Is H (lfs x.1) v/\stB d f x=true/\
 ∀l H',an_ H H'->H l=none->Is (nw H H') (.l ((eC_ d (f+1) x.1 x.2).map stD)) (.ref l)->Q (.ref l) H'
def rJ_ (_:W.Frag):Sp:=fun vs H Q _=>∃d k:Nat,vs=[.int d, .int k]/\Wide d k/\∀l H',an_ H H'->H l=none->Is (nw H H') (.l ((sD d k).map lfs)) (.ref l)->Q (.ref l) H'
theorem or_ {K:W.Frag}{n:String}:W.kitOne K (.type n) (.type n)=some true:=by
 unfold W.kitOne;simp
theorem j7_ {H:Hp}{Wq:List (List Lf)}{vs:List V} (h:Iss H (Wq.map lfs) vs):∀(l:List Nat),(∀i∈l,i<Wq.length)->Iss H ((l.map fun i=>Wq.getD i []).map lfs) (l.map fun i=>vs.getD i .non)
 |[],_=>am_
 |i::l,hl=>by
  have hi:i<Wq.length:=hl i (by simp);have hr:i<vs.length:=by rw [h.length,A1];exact hi
  refine ai_ ?_ (j7_ h l fun j hj=>hl j (by simp [hj]));obtain⟨d,hd,h1⟩:=h.of_get (A3 hr);rw [A9,A3 hi] at hd;cases hd;show Is H (lfs (Wq.getD i [])) (vs.getD i .non);rw [A8,A8,A3 hi,A3 hr];exact h1
theorem sc_ {H:Hp}{x:List Lf×Int}{v:V} (h:Is H (stD x) v):∃t u,v= .ref t/\H t=some (.tup [u, .int x.2])/\Is H (lfs x.1) u:=by
 obtain⟨t,vs,rfl,ht,hi⟩:=hs_ h;obtain⟨u,us,rfl,h1,h2⟩:=aw_ hi;obtain⟨u2,us2,rfl,h3,h4⟩:=aw_ h2;rw [do_ h3,bf_ h4] at ht;exact⟨t,u,rfl,ht,h1⟩
theorem nX_ {ps:List Lf}:∀x∈ps.map gW_,x.length=3:=fun x hx=>by
 obtain⟨p,_,rfl⟩:=Af.mp hx;rfl
theorem qL_ {d:Nat} (h1:1<=d) (h5:d<=5):(d:Int)*((d:Int)-1)/2=((d*(d-1)/2:Nat):Int):=by
 have:d=1\/d=2\/d=3\/d=4\/d=5:=by lia
 rcases this with rfl|rfl|rfl|rfl|rfl<;>rfl
theorem mR_ {H H':Hp}{a:Addr} (k:But a H H'):an_ (hid H a) H':=fun b o e=>by
 have hb:b≠a:=by rintro rfl;rw [ox_] at e;cases e
 rw [mS_ hb] at e;exact k _ _ e hb
theorem h0_ {vs:List V}{i:Nat} (h:i<=vs.length):kr_ vs (some (i:Int)) none=vs.drop i:=by
 unfold kr_;rw [HT.sIx_nat,HT.sIx_none,Nat.min_eq_left h,List.take_of_length_le (by simp)]
theorem Snd.good {d:Nat}{ps:List Lf} (h:Snd d ps):pE_ d ps:=⟨h.ok,h.nn⟩
theorem Snd.okl {d:Nat}{ps:List Lf} (h:Snd d ps):∀p∈ps,Okl d p:=h.good.okl
theorem qM_ {ns:List Int} (h:∀i:Nat,0<=ns.getD i 0):0<=si_ ns:=h _
theorem Snd.ends {d:Nat}{ps:List Lf} (h:Snd d ps) (i:Nat):0<=(bx_ d ps).getD i 0:=by
 rcases Bj i d with c|c
 .rw [gO_ h.okl c];exact h.nn i c
 .rw [A8,List.getElem?_eq_none (by rw [eA_ d ps h.okl];exact c)];exact Cg _
def tH_ (_:W.Frag):Sp:=fun vs H Q _=>∃(n:Nat) (dv:V) (ps:List Lf),vs=[.int n,dv]/\1<=n/\n<=5/\Is H (lfs ps) dv/\Snd n ps/\∀H',an_ H H'->Q (.bl true) H'
def tP_ (_:W.Frag):Sp:=fun vs H Q _=>∃(n:Nat) (dv:V) (ps:List Lf),vs=[.int n,dv]/\1<=n/\n<=5/\Is H (lfs ps) dv/\Snd n ps/\∀H',an_ H H'->Q .non H'
def tV_ (_:W.Frag):Sp:=fun vs H Q _=>∃(n:Nat) (dv:V) (ps:List Lf),vs=[.int n,dv]/\1<=n/\n<=5/\Is H (lfs ps) dv/\Snd n ps/\(e9_ n (bx_ n ps)).length<=20/\∀l H',an_ H H'->H l=none->Is H' (lfs (e9_ n (bx_ n ps))) (.ref l)->Q (.ref l) H'
theorem pk_ {H H':Hp}{l:Addr}{o:HO}{xs:List V}{qs:List Lf}{vs:List V} (s:an_ H H') (hl:H l=some (.lst xs)) (h:Iss H (qs.map lf) vs):Iss (upd H' l o) (qs.map lf) vs:=
 j8_ (fun a ys e=>by rw [ak_ (by rintro rfl;rw [hl] at e;cases e)];exact s _ _ e) h
theorem sm_ {H:Hp}{p q:Lf}{v:V} (h:Is H (lf p) v) (k:Is H (lf q) v):p=q:=by
 obtain⟨a,rfl,ha⟩:=ht_ h;obtain⟨b,e,hb⟩:=ht_ k;cases e;rw [ha] at hb;obtain⟨a1,a2,a3⟩:=p;obtain⟨b1,b2,b3⟩:=q;simp at hb;simp [hb]
theorem rr_ {K:W.Frag}{H:Hp}{wt:List Lf}{m:Lf}{wvs:List V}{v:V} (h:Iss H (wt.map lf) wvs) (k:Is H (lf m) v):uw_ K H 1 wvs v (fun j=>decide (wt.getD j (0,0,0)=m)):=by
 have at_:∀(j:Nat) z,wvs[j]? =some z->Is H (lf (wt.getD j (0,0,0))) z:=fun j z hz=>by
  obtain⟨d,hd,h1⟩:=h.of_get hz;rw [A9] at hd;obtain⟨d',hd',rfl⟩:=A4.mp hd;rw [List.getD,hd'];exact h1
 refine⟨by decide,fun j z hz=>⟨?_,pr_ (at_ j z hz) k⟩,fun i j z hi hj=> ?_⟩
 .obtain⟨a,e,_⟩:=ht_ (at_ j z hz);exact⟨a,e⟩
 .show decide (wt.getD i (0,0,0)=m)=decide (wt.getD j (0,0,0)=m);rw [sm_ (at_ i z hi) (at_ j z hj)]
def ti (t:List Int):D:=tI t
def t1_ (_:W.Frag):Sp:=fun vs H Q _=>∃(n:Int) (k:Nat),vs=[.int n, .int k]/\(k:Int)<=n/\n<=15/\Q (.int (chF n k)) H
def uT_ (_:W.Frag):Sp:=fun vs H Q _=>∃(v:V) (t:List Int) (p:Nat) (m:Int),vs=[v, .int p, .int m]/\Is H (tI t) v/\p<t.length/\t.length<=5/\∀u H',an_ H H'->Is H' (tI (wmF t p m)) u->Q u H'
def vk_ (t:List Int) (a:Nat):Prop:=t.length<=5/\(∀i:Nat,0<=t.getD i 0)/\t.sum+(a:Int)<=15
def uX_ (n:Nat) (_:W.Frag):Sp:=fun vs H Q _=>∃(v:V) (t:List Int) (p g a:Nat),vs=[v, .int p, .int ((p:Int)+(g:Int)), .int a]/\Is H (tI t) v/\g<n/\n<=6/\p+g<t.length/\vk_ t a/\∀l H',an_ H H'->H l=none->Is H' (.l ((pbF g t p a).map prD)) (.ref l)->Q (.ref l) H'
def uJ_ (d:Nat) (mk:List Lf):Prop:=(∀m∈mk,1<=m.1/\m.1<m.2.1/\m.2.1<=(d:Int)+1)/\mk.length<=15
def tT_ (_:W.Frag):Sp:=fun vs H Q _=>∃(d:Nat) (v:V) (mk:List Lf),vs=[.int d,v]/\1<=d/\d<=5/\Is H (lfs mk) v/\uJ_ d mk/\∀H',an_ H H'->Q (.int (hmF d mk)) H'
def uY_ (_:W.Frag):Sp:=fun vs H Q _=>∃(d:Nat) (v:V) (ps:List Lf),vs=[.int d,v]/\1<=d/\d<=5/\Is H (lfs ps) v/\Snd d ps/\∀H',an_ H H'->Q (.int (hmF d (ps++e9_ d (bx_ d ps)))) H'
theorem rt_ {t:List Int}{p:Nat} (H':Hp) (vs:List V) (h:Iss H' (t.map .i) vs):Iss H' ((t.take p).map .i) (kr_ vs none (some (p:Int))):=by
 rw [oK_,List.map_take];exact h.take p
theorem pL_ {t:List Int}{p:Nat} (hp:p<=t.length) (H':Hp) (vs:List V) (h:Iss H' (t.map .i) vs):Iss H' ((t.drop p).map .i) (kr_ vs (some (p:Int)) none):=by
 rw [h0_ (by rw [h.length,A1];exact hp),List.map_drop];exact h.drop p
theorem o8_:∀{g:Nat}{t:List Int}{p a:Nat},(pbF g t p a).length<=(a+1)^g
 |0,t,p,a=>by simp [pbF]
 |g+1,t,p,a=>by
  have go:∀n,n<=a+1->((List.range n).flatMap fun h:Nat=>(pbF g (wmF t p (h:Int)) (p+1) (a-h)).map fun x=>(x.1,chF (t.getD p 0+(h:Int)) h*x.2)).length<=n*(a+1)^g:=by
   intro n hn;induction n with
   |zero=>simp
   |succ n ih=>
    rw [bk_,AC,A1];have h1:=ih (by lia);have h2:=o8_ (g:=g) (t:=wmF t p (n:Int)) (p:=p+1) (a:=a-n);have h3:(a-n+1)^g<=(a+1)^g:=Nat.pow_le_pow_left (by lia) g;rw [CP];lia
  have:=go (a+1) (AA _);rw [Nat.pow_succ,Nat.mul_comm];exact this
theorem n9_ {g:Nat}{t:List Int}{p a:Nat} (hg:g<=5) (ha:a<=15):(pbF g t p a).length<=1048576:=by
 have h1:=o8_ (g:=g) (t:=t) (p:=p) (a:=a);have h2:(a+1)^g<=16^g:=Nat.pow_le_pow_left (by lia) g;have h3:16^g<=16^5:=CK (by decide) hg;lia
theorem op_ {n:Nat} (h:n<=1048576):n<sizeLine:=by rw [Aw];lia
theorem qH_ {H:Hp}{x:List Int×Int}{t:Addr}{u:V} (h:H t=some (.tup [u, .int x.2])) (k:Is H (tI x.1) u):Is H (prD x) (.ref t):=gX_ h (ai_ k (ai_ e4_ am_))
theorem qm_ {H:Hp}{x:List Int×Int}{v:V} (h:Is H (prD x) v):∃t u,v= .ref t/\H t=some (.tup [u, .int x.2])/\Is H (tI x.1) u:=by
 obtain⟨t,vs,rfl,ht,hi⟩:=hs_ h;obtain⟨u1,us,rfl,hu1,hi⟩:=aw_ hi;obtain⟨u2,us,rfl,hu2,hi⟩:=aw_ hi;rw [bf_ hi,do_ hu2] at ht;exact⟨t,u1,rfl,ht,hu1⟩
theorem rs_ {H H':Hp} (s:by_ H H') {t:List Int}{v:V} (h:Is H (tI t) v):Is H' (tI t) v:=by
 obtain⟨a,rfl,ha⟩:=bS_ h;exact e3_ (s _ _ ha)
theorem jG_ {H H':Hp} (s:by_ H H') {x:List Int×Int}{v:V} (h:Is H (prD x) v):Is H' (prD x) v:=by
 obtain⟨a,u,rfl,ha,hu⟩:=qm_ h;exact qH_ (s _ _ ha) (rs_ s hu)
theorem l5_ {H H':Hp} (s:by_ H H'):∀{xs:List (List Int×Int)}{vs:List V},Iss H (xs.map prD) vs->Iss H' (xs.map prD) vs
 |[],_,h=>by rw [bf_ h];exact am_
 |x::xs,_,h=>by
  obtain⟨u,us,rfl,q,r⟩:=aw_ h;exact ai_ (jG_ s q) (l5_ s r)
theorem uf_ {d:Nat}{ps:List Lf} (hs:Snd d ps) (d1:1<=d) (d5:d<=5):uJ_ d (ps++e9_ d (bx_ d ps)):=by
 obtain⟨pl,p10,_⟩:=hs.good.len d1 d5;have em:(e9_ d (bx_ d ps)).length=d:=hX_ hs.okl hs.nn;refine⟨fun m hm=> ?_,by rw [AC];lia⟩;rcases Bd.mp hm with h|h
 .obtain⟨o1,o2,o3,_⟩:=hs.ok m h;exact⟨o1,o2,by lia⟩
 .unfold e9_ at h;obtain⟨i,hi,h⟩:=At.mp h;have hi:=AV.mp hi;unfold k3_ at h;rw [(List.mem_replicate.mp h).2];exact⟨by show 1<=1+(i:Int);lia,by show 1+(i:Int)<(d:Int)+1;lia,by show(d:Int)+1<=_;lia⟩
theorem kN_ {r:List Nat}{t:List Int}{p:Nat} (h:∀i:Nat,0<=t.getD i 0) (hs:t.sum+(r.sum:Nat)<=15) (hl:r.length<=5): -(2^64)<gV_ t p r/\gV_ t p r<2^64:=by
 obtain⟨a,b⟩:=lX_ (p:=p) h hs;have:(6435:Int)^r.length<=6435^5:=by
  have:r.length=0\/r.length=1\/r.length=2\/r.length=3\/r.length=4\/r.length=5:=by lia
  rcases this with e|e|e|e|e|e<;>rw [e]<;>decide
 lia
theorem pK_ {K:W.Frag}{H:Hp}{wt:List Lf}{m:Lf}{wvs:List V}{v:V} (h:Iss H (wt.map lf) wvs) (k:Is H (lf m) v):q7_ K H 1 wvs v (fun j=>decide (wt.getD j (0,0,0)=m)):=by
 obtain⟨a,b,c⟩:=rr_ (K:=K) h k;exact⟨a,fun j z hz=>⟨(b j z hz).1,(b j z hz).2.told⟩,c⟩
theorem pU_ (xs:List Lf):(kH_ xs).Nodup:=(iz_ xs).imp fun{a b} h e=>by subst e;exact gq_ h
theorem hV_ {α β:Type} (f:β->α->β) (b:β) (xs:List α) (j:Nat) (x:α) (h:xs[j]? =some x):(xs.take (j+1)).foldl f b=f ((xs.take j).foldl f b) x:=by
 rw [AZ,h,CH];rfl
theorem pN_ (cnt:Lf->Nat) (m:Lf) (ms:List Lf):TF cnt (m::ms)=rc_ (TF cnt ms) (m.1-1).toNat (spR (m.2.1-m.1-1).toNat (cnt m)):=by funext t;rfl
theorem je_ {p:Nat}{rs:List (List Nat)}{D:Tab}{j:Nat}{x:List Int×Int}{acc:Tab} (h:D[j]? =some x):stP p rs (D.take (j+1)) acc=inP x.1 x.2 p rs (stP p rs (D.take j) acc):=hV_ _ _ D j x h
theorem nN_ {H:Hp}{d:Addr}{kvs:List (List Key×V)}{o:HO} (h:H d=some (.dT kvs)):by_ H (upd H d o):=(LTS.dict h).2
theorem kd_ {κ:Type} [DecidableEq κ] {k:κ}:∀{R:List (κ×Int)},k∈R.map (·.1)->(k,nD_ R k)∈R
 |[],h=>nomatch h
 |(a,b)::r,h=>by
  unfold nD_;by_cases e:a=k
  .rw [A7 e,e];exact AX
  .rw [A5 e];rw [AK,AJ] at h;exact AR _ (kd_ (h.resolve_left fun z=>e z.symm))
theorem kc_ {κ:Type} [DecidableEq κ] {k:κ}{v:Int}:∀{R:List (κ×Int)},nD_ (ik_ R k v) k=v/\k∈(ik_ R k v).map (·.1)
 |[]=>by simp [ik_,nD_]
 |(a,b)::r=>by
  obtain⟨h1,h2⟩:=kc_ (k:=k) (v:=v) (R:=r);unfold ik_;by_cases e:a=k
  .rw [A7 e];exact⟨A7 e,by rw [AK,e];exact AX⟩
  .rw [A5 e];exact⟨by unfold nD_;rw [A5 e];exact h1,by rw [AK];exact AR _ h2⟩
def rwL (t:List Int):D:= .l (t.map .i)
def qD (q:Ask4):D:= .t [.i q.d, .i q.k,tI q.h,tI q.f]
def smD (x:Sm4):D:= .t [.i x.1,rwL x.2.1,qD x.2.2]
def kq (q:Ask4):List (Mx Int):=[.inl q.d, .inl q.k, .inr q.h, .inr q.f]
theorem so_ {q r:Ask4} (h:kq q=kq r):q=r:=by
 obtain⟨a,b,c,d⟩:=q;obtain⟨a',b',c',d'⟩:=r;unfold kq at h;simp only [D4,Sum.inl.injEq,Sum.inr.injEq,and_true] at h;obtain⟨rfl,rfl,rfl,rfl⟩:=h;rfl
theorem qI_ {H:Hp}{q:Ask4}{v:V} (h:Is H (qD q) v):IsK H (kq q) v:=⟨rfl,h⟩
theorem fE_ {H:Hp}{t:List Int}{v:V} (h:Is H (rwL t) v):∃a,v= .ref a/\H a=some (.lst (t.map V.int)):=by
 obtain⟨a,vs,rfl,ha,hi⟩:=bT_ h;rw [ey_ hi] at ha;exact⟨a,rfl,ha⟩
theorem hQ_ {H:Hp}{t:List Int}{a:Addr} (h:H a=some (.lst (t.map V.int))):Is H (rwL t) (.ref a):=cq_ h (gH_ t)
theorem pd_ {H0 H:Hp}{t:List Int}{a:Addr} (n:H0 a=none) (h:Is H (rwL t) (.ref a)):Is (nw H0 H) (rwL t) (.ref a):=by
 obtain⟨_,e,ha⟩:=fE_ h;cases e;exact hQ_ (by rw [cH_ n];exact ha)
theorem fg_ {H H':Hp} (t:by_ H H') {xs:List Int}{v:V} (h:Is H (tI xs) v):Is H' (tI xs) v:=by
 obtain⟨a,rfl,ha⟩:=bS_ h;exact e3_ (t _ _ ha)
theorem ee_ {H H':Hp} (t:by_ H H'):∀{ts:List (List Int)}{vs:List V},Iss H (ts.map tI) vs->Iss H' (ts.map tI) vs
 |[],_,h=>by rw [bf_ h];exact am_
 |p::ps,_,h=>by
  obtain⟨u,us,rfl,h1,h2⟩:=aw_ h;exact ai_ (fg_ t h1) (ee_ t h2)
theorem se_ {H0 H:Hp} (s:an_ H0 H):by_ H (nw H0 H):=fun a xs e=>jL_ s e
theorem uA_ {H H':Hp} (t:by_ H H') {q:Ask4}{v:V} (h:Is H (qD q) v):Is H' (qD q) v:=by
 obtain⟨a,vs,rfl,ha,hi⟩:=hs_ h;obtain⟨u1,us,rfl,h1,hi⟩:=aw_ hi;obtain⟨u2,us,rfl,h2,hi⟩:=aw_ hi;obtain⟨u3,us,rfl,h3,hi⟩:=aw_ hi;obtain⟨u4,us,rfl,h4,hi⟩:=aw_ hi;rw [bf_ hi,do_ h1,do_ h2] at ha;exact gX_ (t _ _ ha) (ai_ e4_ (ai_ e4_ (ai_ (fg_ t h3) (ai_ (fg_ t h4) am_))))
def ft_ (t:List Int):Prop:=Nn t/\t.length<=5/\(t=[]\/∃s x,t=s++[x]/\0<x)
def tS_ (_:W.Frag):Sp:=fun vs H Q _=>∃(v:V) (t:List Int),vs=[v]/\Is H (rwL t) v/\ft_ t/\Q (.bl true) H
def tL_ (_:W.Frag):Sp:=fun vs H Q _=>∃(v:V) (t:List Int),vs=[v]/\Is H (rwL t) v/\t.length<=5/\∀H',an_ H H'->Q (.int (wtF t)) H'
def tK_ (_:W.Frag):Sp:=fun vs H Q _=>∃(v:V) (t:List Int),vs=[v]/\Is H (tI t) v/\t.length<=5/\∀H',an_ H H'->Q (.int (wtF t)) H'
def tQ_ (_:W.Frag):Sp:=fun vs H Q _=>∃(d:Int) (v1 v2:V) (a b:List Int),vs=[.int d,v1,v2]/\Is H (rwL a) v1/\Is H (rwL b) v2/\ft_ a/\ft_ b/\wtF a+wtF b=d/\∀H',an_ H H'->Q .non H'
def tN_ (_:W.Frag):Sp:=fun vs H Q _=>∃(v:V) (ws:List Int),vs=[v]/\Is H (rwL ws) v/\(∀w∈ws,1<=w/\w<=5)/\Q (.int (il_ ws)) H
def tU_ (_:W.Frag):Sp:=fun vs H Q _=>∃(v:V) (t:List Int) (n:Nat),vs=[v, .int n]/\Is H (rwL t) v/\t.length<=n/\n<=5/\∀u H',an_ H H'->Is H' (tI (hm_ n t)) u->Q u H'
def tJ_ (_:W.Frag):Sp:=fun vs H Q _=>∃(v:V) (t:List Int),vs=[v]/\Is H (tI t) v/\Nn t/\t.sum<=5/\t.length<=5/\∀l H',an_ H H'->H l=none->Is H' (.l ((rwF t).map tI)) (.ref l)->Q (.ref l) H'
def tM_ (n:Nat) (_:W.Frag):Sp:=fun vs H Q _=>∃(v:V) (t:List Int) (wt:Int) (fi:Nat),vs=[v, .int wt, .int fi]/\Is H (tI t) v/\Nn t/\t.length<=5/\(wt-wtF t).toNat+1<=n/\n<=8/\-1000<=wt/\wt<=1000/\-1000<=wtF t/\wtF t<=1000/\fi<=5/\∀l H',an_ H H'->H l=none->Is H' (.l ((rbF n t wt fi).map tI)) (.ref l)->Q (.ref l) H'
def t0_ (_:W.Frag):Sp:=fun vs H Q _=>∃(v1 v2:V) (b a:List Int),vs=[v1,v2]/\Is H (tI b) v1/\Is H (tI a) v2/\Le a b/\b.sum<=5/\∀H',an_ H H'->Q (.int (io_ b a)) H'
def tE_ (_:W.Frag):Sp:=fun vs H Q _=>∃(v1 v2:V) (f fr:List Int),vs=[v1,v2]/\Is H (tI f) v1/\Is H (tI fr) v2/\Le f fr/\fr.length<=5/\fr.sum<=5/\∀l H',an_ H H'->H l=none->Is H' (rwL (wgF f fr)) (.ref l)->Q (.ref l) H'
def rE_ (g:Ask4->List Sm4):Sp:=fun vs H Q _=>∃(v1 v2:V) (q:Ask4) (L:Nat),vs=[.int q.d, .int q.k,v1,v2]/\Is H (tI q.h) v1/\Is H (tI q.f) v2/\AskOk L q/\2<=q.d/\∀l H',an_ H H'->H l=none->Is (nw H H') (.l ((g q).map smD)) (.ref l)->Q (.ref l) H'
def tI_ (_:W.Frag):Sp:=fun vs H Q _=>∃(v:V) (q:Ask4) (L:Nat),vs=[v]/\Is H (qD q) v/\AskOk L q/\2<=q.d/\∀l H',an_ H H'->H l=none->Is (nw H H') (.l ((fh_ q).map smD)) (.ref l)->Q (.ref l) H'
theorem lq_:∀{a b:List Int}{k:Int},Le a b->((wgG k a b).length:Int)=b.sum-a.sum
 |[],[],_,_=>rfl
 |x::a,y::b,k,h=>by
  show((List.replicate (y-x).toNat k++wgG (k+1) a b).length:Int)=_;have:=lq_ (k:=k+1) h.2.2;have h1:=h.2.1;rw [AC,BC,Aj,Aj];lia
theorem oU_:∀{a b:List Int}{k:Int},Le a b->∀w∈wgG k a b,k<=w/\w<k+a.length
 |[],[],_,_,w,h=>nomatch h
 |x::a,y::b,k,h,w,hw=>by
  rcases Bd.mp (show w∈List.replicate (y-x).toNat k++wgG (k+1) a b from hw) with hw|hw
  .have:=List.eq_of_mem_replicate hw;rw [AY];lia
  .have:=oU_ h.2.2 w hw;rw [AY];lia
def KnQ (L:Nat) (R:List (List (Mx Int)×Int)):Prop:=(R.map (·.1)).Nodup/\∀x∈R,∃q,AskOk L q/\0<=q.k/\x=(kq q,cF q)
def vg_ (L:Nat):List (List (Mx Int)):=(List.range 6).flatMap fun d:Nat=>(List.range 7).flatMap fun k:Nat=>(el_ 1 L 5).flatMap fun h=>(el_ 1 L 5).map fun f=>kq ⟨(d:Int),(k:Int),h,f⟩
theorem e6_ {α β:Type}{g:α->List β}{m:Nat}:∀{xs:List α},(∀x∈xs,(g x).length<=m)->(xs.flatMap g).length<=xs.length*m
 |[],_=>AM _
 |x::xs,h=>by
  rw [BD,AC,AY,CP];have:=e6_ (xs:=xs) fun y hy=>h y (AR _ hy);have:=h x AX;lia
theorem oR_ {L:Nat} (h:L<=5):(vg_ L).length<=15162:=by
 have r:(el_ 1 L 5).length<=19:=by
  have h1:=lV_;unfold o3_ at h1;rw [Al] at h1;simpa using h1 L (AV.mpr (by lia))
 have e1:∀(d k:Nat) (h':List Int),((el_ 1 L 5).map fun f=>kq ⟨(d:Int),(k:Int),h',f⟩).length<=19:=fun d k h'=>by rw [A1];exact r
 have e2:∀(d k:Nat),((el_ 1 L 5).flatMap fun h=>(el_ 1 L 5).map fun f=>kq ⟨(d:Int),(k:Int),h,f⟩).length<=361:=fun d k=>B6 (e6_ fun h' _=>e1 d k h') (by lia);have e3:∀d:Nat,((List.range 7).flatMap fun k:Nat=>(el_ 1 L 5).flatMap fun h=>(el_ 1 L 5).map fun f=>kq ⟨(d:Int),(k:Int),h,f⟩).length<=2527:=fun d=>by
  have:=e6_ (xs:=List.range 7) (m:=361) fun k _=>e2 d k;rw [BI] at this;exact this
 have:=e6_ (xs:=List.range 6) (m:=2527) fun d _=>e3 d;rw [BI] at this;exact this
theorem KnQ.len {L:Nat}{R:List (List (Mx Int)×Int)} (h:KnQ L R) (h5:L<=5):R.length<=15162:=by
 rw [<-A1 (f:=(·.1))];refine B6 (sh_ h.1 fun x hx=> ?_) (oR_ h5);obtain⟨y,hy,rfl⟩:=Af.mp hx;obtain⟨q,a,k0,rfl⟩:=h.2 y hy;have wh:=cr_ (i:=1) (by decide) a.hn;have wf:=cr_ (i:=1) (by decide) a.fn;have w:=a.wt;have d1:=a.d1;have dL:=a.dL;have k6:=a.k6;unfold wtF at w;refine At.mpr ⟨q.d.toNat,AV.mpr (by lia),At.mpr ⟨q.k.toNat,AV.mpr (by lia),At.mpr ⟨q.h,f3_ (by decide) a.hl a.hn (by show wtG 1 q.h<=5;lia),Af.mpr ⟨q.f,f3_ (by decide) a.fl a.fn (by show wtG 1 q.f<=5;lia), ?_⟩⟩⟩⟩;show kq ⟨((q.d.toNat:Nat):Int),((q.k.toNat:Nat):Int),q.h,q.f⟩=kq q;rw [show((q.d.toNat:Nat):Int)=q.d by lia,show((q.k.toNat:Nat):Int)=q.k by lia]
theorem KnQ.get {L:Nat}{R:List (List (Mx Int)×Int)} (h:KnQ L R) {q:Ask4} (hk:kq q∈R.map (·.1)):nD_ R (kq q)=cF q:=by
 obtain⟨r,_,_,e⟩:=h.2 _ (kd_ hk);simp only [BM] at e;rw [e.2,so_ e.1]
theorem KnQ.put {L:Nat}{R:List (List (Mx Int)×Int)} (h:KnQ L R) {q:Ask4} (a:AskOk L q) (k0:0<=q.k):KnQ L (ik_ R (kq q) (cF q)):=
 ⟨p1_ h.1,fun x hx=>(jB_ hx).elim (fun hx=>h.2 x hx) fun e=>⟨q,a,k0,e⟩⟩
theorem gp_ {P:Program}{w:World}{H H':Hp}{a:Addr}{kvs:List (List (Mx Int)×V)} (d:DM P w H a kvs) (k:But a H H'):LTS H H':=by
 obtain⟨_,_,xs,_,e⟩:=d;exact⟨fun b ys h=>k _ _ h (by rintro rfl;rw [e] at h;cases h),fun b ys h=>k _ _ h (by rintro rfl;rw [e] at h;cases h)⟩
def tZ_ (P:Program) (w:World) (n:Nat):Sp:=fun vs H Q _=>∃(v:V) (kn:Addr) (q:Ask4) (L:Nat) (R:List (List (Mx Int)×Int)),vs=[v, .ref kn]/\Is H (qD q) v/\AskOk L q/\muF q+1<=(n:Int)/\DM P w H kn (tK R)/\KnQ L R/\∀R' H',But kn H H'->DM P w H' kn (tK R')->KnQ L R'->Q (.int (cF q)) H'
def t3_ (_:W.Frag):Sp:=fun vs H Q _=>∃(d k:Nat) (v1 v2:V) (a b:List Int),vs=[.int d, .int k,v1,v2]/\Wide d k/\Is H (rwL a) v1/\Is H (rwL b) v2/\ft_ a/\ft_ b/\wtF a+wtF b=d/\a.length<=d/\b.length<=d/\∀u H',an_ H H'->Is H' (qD ⟨d,k,hm_ d a,hm_ d b⟩) u->Q u H'
def t2_ (_:W.Frag):Sp:=fun vs H Q _=>∃(d k:Nat) (v1 v2:V) (a b:List Int),vs=[.int d, .int k,v1,v2]/\Wide d k/\Is H (rwL a) v1/\Is H (rwL b) v2/\ft_ a/\ft_ b/\wtF a+wtF b=d/\a.length<=d/\b.length<=d/\∀H',an_ H H'->Q (.int (cF ⟨d,k,hm_ d a,hm_ d b⟩)) H'
theorem nS_ {L:Nat}{q:Ask4} (a:AskOk L q) (d2:2<=q.d) {x:Sm4} (hx:x∈fh_ q):(0<=x.1/\x.1<=1024)/\(∀w∈x.2.1,1<=w/\w<=5)/\x.2.1.length<=5:=by
 unfold fh_ at hx;rcases Bd.mp hx with hx|hx
 .obtain⟨_,_,e1,w,e2,w1,w5⟩:=a.held hx;rw [e1,e2];exact⟨⟨by decide,by decide⟩,fun y hy=>by rw [AS.mp hy];exact⟨w1,w5⟩,by simp⟩
 .obtain⟨kp,hk,fr,hf,rfl⟩:=mZ_ hx;obtain⟨_,_,l1,l2,f5⟩:=a.few d2 hk hf;have c1:=ku_ l1 a.sums.2.1;have c2:=ku_ l2 f5;have m1:=Bs c1.1 c2.1;have m2:=CN c1.2 c2.2 c2.1 (by decide);refine⟨⟨m1,by show _*_<=1024;lia⟩,fun w hw=> ?_, ?_⟩
  .have:=oU_ (k:=1) l2 w hw;have:=a.fl;have:=a.L5;lia
  .have:=lq_ (k:=1) l2;have:=a.sums;show(wgG 1 q.f fr).length<=5;lia
theorem l7_:∀{ws:List Int},(∀w∈ws,1<=w/\w<=5)->0<=il_ ws/\il_ ws<=5^ws.length
 |[],_=>by simp [il_]
 |w::ws,h=>by
  obtain⟨h1,h2⟩:=l7_ fun x hx=>h x (AR _ hx);obtain⟨w1,w5⟩:=h w AX;rw [show w::ws=[w]++ws from rfl,p7_,show il_ [w]=w by show 1*w=w;lia];refine⟨Bs (by lia) h1, ?_⟩;rw [AC,Int.pow_add];exact CN w5 h2 h1 (Int.pow_nonneg (by decide))
def pW_ (_:W.Frag):Sp:=fun vs H Q _=>∃(dv:V) (ps:List Lf) (d:Nat),vs=[dv]/\Is H (lfs ps) dv/\(∀p∈ps,True/\1<=p.2.2/\p.2.2<=2^20)/\Q (.int (ed_ ps)) H
def u1_ (c:Addr):Sp:=fun vs H Q E=>∃v lo hi,vs=[v, .int lo, .int hi]/\lf_ H v/\(Within lo hi v->Q .non H)/\(¬Within lo hi v->(0<=lo/\lo<=20/\0<=hi/\hi<=20)/\E (.ref c) none H)
theorem o1_:∀a,a<21->∀b,b<21->(decide (((a:Nat):Int).natAbs.log2<1920)&&decide ((Str.empty++Str.ofString "not a whole number from ").length<=sizeLine)&&decide ((Str.empty++Str.ofString "not a whole number from "++Str.ofString (toString ((a:Nat):Int))).length<=sizeLine)&&decide ((Str.empty++Str.ofString "not a whole number from "++Str.ofString (toString ((a:Nat):Int))++Str.ofString " to ").length<=sizeLine)&&decide ((Str.empty++Str.ofString "not a whole number from "++Str.ofString (toString ((a:Nat):Int))++Str.ofString " to "++Str.ofString (toString ((b:Nat):Int))).length<=sizeLine))=true:=by ac_nf
def tY_ (f:Nat->Nat->Int):Sp:=fun vs H Q _=>∃d k:Nat,vs=[.int d, .int k]/\Wide d k/\∀H',an_ H H'->Q (.int (f d k)) H'
def tF_ (_:W.Frag):Sp:=fun vs H Q _=>∃(a:Addr) (q n g:Nat) (b:Nat->Addr) (X:Nat->List (Nat×Int)),vs=[.ref a]/\Tb q g H a b X/\Sz q n/\g<=n/\∀l H',Fz H H'->H l=none->Is H' (.l ((fn_ q (ny_ g X) n).map tI)) (.ref l)->Q (.ref l) H'
theorem rR_ {H:Hp}{a:Addr}{x y:List (Key×V)} (h:Rd H a (.dK x)) (k:Rd H a (.dK y)):x=y:=by
 rcases h with h|⟨o,h⟩<;>rcases k with k|⟨o',k⟩<;>rw [h] at k<;>cases k<;>rfl
theorem r6_ {H:Hp}{a c:Addr}{b:Nat->Addr}{g:Nat}{xs:List (Nat×Int)} (h:Rd H a (.dK (dN_ b g))) (k:Rd H c (.dK (dI xs))) (hg:1<=g):c≠a:=by
 rintro rfl;have e:=rR_ h k;have h0:(dN_ b g)[0]? =some (.inl ((0+1:Nat):Int), .ref (b (0+1))):=mj_ (by lia);rw [e] at h0;unfold dI at h0;rw [A9] at h0;obtain⟨x,_,e⟩:=A4.mp h0;exact V.noConfusion (Bb Prod.snd e)
theorem ok_ {xs:List (Nat×Int)}{i:Nat}{x:Nat×Int} (h:xs[i]? =some x):x.1∈xs.map (·.1):=Af.mpr ⟨x,AU h,rfl⟩
theorem SqL.fz {K:W.Frag}{H H':Hp} (z:Fz H H') {a:Addr}{xs:List V} (h:SqL K H a xs):SqL K H' a xs:=by
 rcases h with(h|⟨o,h⟩)|h
 .exact .inl (.inl (z.lts.1 _ _ h))
 .rcases z _ _ h with h2|⟨k,o2,h2|⟨o3,h2⟩,_⟩
  .exact .inl (.inr ⟨o,h2⟩)
  .cases h2
  .cases h2
 .exact .inr h
theorem jD_ {H H':Hp} (s:LTS H H') {xs:List (List Int)}{v:V} (h:Is H (.l (xs.map tI)) v):Is H' (.l (xs.map tI)) v:=by
 obtain⟨a,vs,rfl,ha,hi⟩:=bT_ h;exact cq_ (s.1 _ _ ha) (g1_ s.2 hi)
theorem nY_ {b:Addr}{H H':Hp}{zs:List V}{xs:List (List Int)}{a:Addr} (hb:H b=some (.lst zs)) (k:But b H H') (n:a≠b) (h:Is H (.l (xs.map tI)) (.ref a)):Is H' (.l (xs.map tI)) (.ref a):=by
 obtain⟨_,vs,e,ha,hi⟩:=bT_ h;cases e;exact cq_ (k _ _ ha n) (g1_ (fun c xs e=>k _ _ e (by rintro rfl;rw [hb] at e;cases e)) hi)
theorem ph_:∀xs:List Int,lg_ (xs.map D.i) (xs.map D.i)
 |[]=>trivial
 |_::xs=>⟨trivial,ph_ xs⟩
theorem pv_:∀xs:List Int,in_ (xs.map D.i)=0
 |[]=>by simp [in_]
 |_::xs=>by have:=pv_ xs;simp [in_,dep] at this⊢;exact this
theorem pg_:∀xs:List (List Int),lg_ (xs.map tI) (xs.map tI)
 |[]=>trivial
 |x::xs=>⟨by unfold tI Kin;exact ph_ x,pg_ xs⟩
theorem pu_:∀xs:List (List Int),in_ (xs.map tI)<=1
 |[]=>by simp [in_]
 |x::xs=>by
  have h1:=pu_ xs;have h2:=pv_ x;simp only [AK,in_,tI,dep,h2];lia
theorem qV_ {K:W.Frag}{H:Hp}{v u:V}{xs:List (List Int)} (h:Is H (.l (xs.map tI)) v) (k:Is H (.l (xs.map tI)) u):EqR K H 2 v u true:=by
 have h1:=pu_ xs;have e:=h.eqr (K:=K) (n:=2) (by simp only [dep];lia) (by unfold Kin;exact pg_ xs) k
 rwa [oG_] at e
def u0_ (_:W.Frag):Sp:=fun vs H Q _=>∃(v:V) (q n g:Nat) (F:Nat->Nat->Int) (L:List (List Int)),vs=[v, .int g]/\Is H (.l (L.map tI)) v/\(∀r,r∈L↔∃d s,F d s≠0/\r=cP_ d s (F d s))/\FOk q n F/\Sz q n/\g<=n/\(∀d s,F d s≠0->d<=g)/\∀a b X H',an_ H H'->Tb q g H' a b X->ny_ g X=F->Q (.ref a) H'
def uW_ (_:W.Frag):Sp:=fun vs H Q _=>∃(d:Nat) (k:Int),vs=[.int d, .int k]/\1<=d/\d<=5/\Q (.int (((ptF d:Nat):Int)-k)) H
def uZ_ (_:W.Frag):Sp:=fun vs H Q _=>∃d k:Nat,vs=[.int d, .int k]/\1<=d/\d<=4/\k<=6/\∀v H',an_ H H'->Is H' (tI [(d:Int),((ptF d:Nat):Int)-(k:Int),cT d k]) v->Q v H'
def uV_ (_:W.Frag):Sp:=fun vs H Q _=>∃d:Nat,vs=[.int d]/\1<=d/\d<=4/\∀l H',an_ H H'->H l=none->Is H' (.l ((dX_ d).map tI)) (.ref l)->Q (.ref l) H'
def tG_ (c:Addr):Sp:=fun vs H Q E=>∃v,vs=[v]/\lf_ H v/\(∀d:Nat,v= .int d->1<=d->d<=4->∀l H',Fz H H'->H l=none->Is H' (.l ((m4_ d).map tI)) (.ref l)->Q (.ref l) H')/\(¬Within 1 4 v->E (.ref c) none H)
def tW_ (_:W.Frag):Sp:=fun vs H Q _=>∃d:Nat,vs=[.int d]/\1<=d/\d<=4/\∀l H',an_ H H'->H l=none->Is H' (.l ((m4_ d).map tI)) (.ref l)->Q (.ref l) H'
def rH_ (_:W.Frag):Sp:=fun vs H Q _=>∃(v u:V) (L:List (List Int)),vs=[v,u]/\Is H (.l (L.map tI)) v/\Is H (.l (L.map tI)) u/\(∀r∈L,r.length<=10)/\∀H',an_ H H'->Q (.bl true) H'
def tO_ (_:W.Frag):Sp:=fun vs H Q _=>∃x:Int,vs=[.int x]/\∀v H',an_ H H'->lf_ H' v->¬Within 1 4 v->Q v H'
def uU_ (_:W.Frag):Sp:=fun vs H Q _=>∃v:V,vs=[v]/\lf_ H v/\¬Within 1 4 v/\∀H',an_ H H'->Q (.bl true) H'
theorem rT_ {d:Nat} (h:d<=5):(d:Int)*((d:Int)+3)/2=((ptF d:Nat):Int):=by
 have:∀d:Nat,d<6->(d:Int)*((d:Int)+3)/2=((ptF d:Nat):Int):=by decide
 exact this d (by lia)
theorem rU_ {d:Nat} (h:d<=5):d*(d-1)/2<=ptF d/\ptF d<=20:=by
 have:∀d:Nat,d<6->d*(d-1)/2<=ptF d/\ptF d<=20:=by decide
 exact this d (by lia)
theorem rq_ {d:Nat} (h:d<=4):d*(d-1)/2<=6:=by
 have:∀d:Nat,d<5->d*(d-1)/2<=6:=by decide
 exact this d (by lia)
theorem lT_ {i:Nat} (h:i<=4):(dX_ i).length<=14:=by
 have:∀d:Nat,d<5->(dX_ d).length<=14:=by decide
 exact this i (by lia)
theorem kl_ {i:Nat} (h:i<=4):(m4_ i).length<=14:=by
 have:∀d:Nat,d<5->(m4_ d).length<=14:=by ac_nf
 exact this i (by lia)
section
variable {P:Program}{w:World}{K:W.Frag}{mg:Str->Option Value}{base:Heap} (T:Fns K mg)
theorem cG_:FnOk P w K mg base CX0 1 T.f41 T.d41 ["_law_script","_law_k"] (rL_ K):=by
 refine T.X41.F.ok eG_ (fun vs H Q E h=> ?_) (fun cdv A outer s H vs Q E hr h=> ?_)
 .obtain⟨_,_,_,rfl,_⟩:=h;rfl
 .obtain⟨a,ns,k,rfl,hS,h0,kk⟩:=h;refine⟨_,(ac_ (bl_ (aF_ ml_ (pv 1) (az_ cM_ (by rfl) T.n_len boot_len (aa_ (pv 0) ab_)) (aL_ _)) (ad_ (ap_ (bp_ dm_ (pv 0) (pv 1) (fun _ _=>rfl)))) aB_)
   (ad_ (ap_ ae_))), ?_⟩
  refine⟨_,rfl,_,rfl,a,_,rfl, .inl hS,_,_,rfl,rfl,_,rfl, ?_⟩;refine hP_ (fun h=> ?_) (fun _=>kk 0);rw [A1] at h;have hk:k.toNat<ns.length:=by lia
  refine⟨_,rfl,_,rfl,a,_,k, .int ns[k.toNat],rfl,rfl,hS, ?_,kk _⟩;have e:((k.toNat:Nat):Int)=k:=by lia
  have:=ns_ (xs:=ns.map V.int) (j:=k.toNat) (v:= .int ns[k.toNat]) (by simp [hk]);rw [e] at this;exact this
theorem eR_:FnOk P w K mg base CX0 1 T.f0 T.d0 ["thing"] nQ_:=by
 refine T.X0.F.ok iD_ (fun vs H Q E h=> ?_) (fun cdv A outer s H vs Q E hr h=> ?_)
 .obtain⟨_,rfl,_⟩:=h;rfl
 .obtain⟨v,rfl,ht,kk⟩:=h;refine⟨_,(ad_ (ap_ (me_ (az_ cS_ (by rfl) T.n_isinstance Bz (aa_ (pv 0) (aa_ (dg_ (v:= .ty "int") (by rfl) T.n_int boot_int (by rfl)) ab_))) (jI_ (r3_ (az_ cS_ (by rfl) T.n_isinstance Bz (aa_ (pv 0) (aa_ (dg_ (v:= .ty "bool") (by rfl) T.n_bool boot_bool (by rfl)) ab_)))))))), ?_⟩;rcases ht with⟨i,rfl⟩|⟨b,rfl⟩|rfl|⟨x,rfl⟩|⟨a,xs,rfl,ha⟩|⟨a,xs,rfl,ha⟩
  .exact⟨_,rfl,_,"int",_,true,rfl, .int i,ex_,true,rfl,ov_ ⟨_,rfl,_,"bool",_,false,rfl, .int i,eh_,false,rfl,kk⟩⟩
  .exact⟨_,rfl,_,"int",_,true,rfl, .bl b,hJ_,true,rfl,ov_ ⟨_,rfl,_,"bool",_,true,rfl, .bl b,ex_,true,rfl,kk⟩⟩
  .exact⟨_,rfl,_,"int",_,false,rfl, .non,hH_,false,rfl,gF_ kk⟩
  .exact⟨_,rfl,_,"int",_,false,rfl, .str x,ja_,false,rfl,gF_ kk⟩
  .exact⟨_,rfl,_,"int",_,false,rfl, .lst ha,hI_,false,rfl,gF_ kk⟩
  .exact⟨_,rfl,_,"int",_,false,rfl, .tup ha,gB_,false,rfl,gF_ kk⟩
theorem FnOk.quiet {k:Nat}{f:Addr}{fd:FuncData}{ps:List Str}{sp:Sp} (F:FnOk P w K mg base (CX1 P w) k f fd ps sp):FnOk P w K mg base CX0 k f fd ps (fun vs H Q _=>sp vs H Q E0):=
 ⟨fun vs H Q E h=>F.len vs H Q E0 h,fun A outer s H args us vs Q E hr he hb hv hs=>DG (F.run A outer s H args us vs Q E0 hr he hb hv hs) fun r s' h=>by
  cases r with
  |ok r=>cases r<;>exact h
  |error e=>
   obtain⟨_,_,_,_,_,_,z,_⟩:=h;exact z.elim⟩
theorem cF_:FnOk P w K mg base (CX1 P w) 2 T.f1 T.d1 ["thing","least","greatest"] (u1_ T.c_NoBound):=by
 refine T.X1.F.okx eF_ (fun vs H Q E h=> ?_) (fun cdv A outer s H vs Q E hr h hR hp=> ?_)
 .obtain⟨_,_,_,rfl,_⟩:=h;rfl
 .obtain⟨v,lo,hi,rfl,ht,kk,ke⟩:=h;refine⟨_,(ad_ (bl_ (iL_ (dz_ (cB_ (ah_ (eR_ T) (hr.mono (by decide)) (by rfl) T.X0.m T.X0.F.kp T.X0.B .nil aq_ (aa_ (pv 0) ab_)))) (iL_ (aF_ ml_ (pv 0) (pv 1) (aL_ _)) (fy_ (aF_ oc_ (pv 0) (pv 2) (aL_ _))))).pt (ad_ (n1_ hR (by rfl) T.m_NoBound T.x_NoBound rfl (aa_ (qf_ (f7_ mb_ (f7_ (mc_ (pv 1)) (f7_ mb_ (f7_ (mc_ (pv 2)) rY_))))) ab_))) aB_)), ?_⟩;have no:¬Within lo hi v->∀D:Ends,oY_ T.c_NoBound E (rB_ (fun σ H Q=>tJc (tC (.str "not a whole number from ")) (tJc (fun σ H Q=>ta_ 1 σ H fun x H1=>∃i,x= .int i/\i.natAbs.log2<1920/\Q (.str (toString i)) H1) (tJc (tC (.str " to ")) (tJc (fun σ H Q=>ta_ 2 σ H fun x H1=>∃i,x= .int i/\i.natAbs.log2<1920/\Q (.str (toString i)) H1) tJn)))
    Str.empty σ H Q) uB_) D [some v,some (.int lo),some (.int hi)] H:=fun hn D=>by
   obtain⟨⟨l1,l2,l3,l4⟩,he⟩:=ke hn;obtain⟨a,rfl⟩:=BJ l1;obtain⟨b,rfl⟩:=BJ l3;have y:=o1_ a (by lia) b (by lia);have z:=o1_ b (by lia) a (by lia);simp only [AN,B'] at y z;obtain⟨⟨⟨⟨y1,y2⟩,y3⟩,y4⟩,y5⟩:=y;exact⟨_,rfl,y2,_,rfl,_,rfl,y1,_,rfl,y3,_,rfl,y4,_,rfl,_,rfl,z.1.1.1.1,_,rfl,y5,y5,(by show 1<=sizeLine;decide),he⟩
  refine⟨v,rfl,v,rfl,ht,isI v,rfl, ?_⟩;cases hv:isI v with
  |false=>exact ov_ (ov_ (no (fun hw=>by rw [ky_ hw] at hv;cases hv) _))
  |true=>
   obtain⟨i,rfl⟩:∃i,v= .int i:=by
    cases v<;>first|exact⟨_,rfl⟩|cases hv
   refine gF_ ⟨_,rfl,_,rfl,i,lo,rfl,rfl,_,rfl,hP_ (fun hl=> ?_) (fun hl=> ?_)⟩
   .exact ov_ (no (fun⟨j,e,h1,h2⟩=>by cases e;lia) _)
   .refine⟨_,rfl,_,rfl,i,hi,rfl,rfl,_,rfl,hP_ (fun hg=> ?_) (fun hg=> ?_)⟩
    .exact no (fun⟨j,e,h1,h2⟩=>by cases e;lia) _
    .exact kk ⟨i,rfl,by lia,by lia⟩
theorem bB_:FnOk P w K mg base CX0 2 T.f1 T.d1 ["thing","least","greatest"] (rM_ K):=
 FnOk.imp (FnOk.quiet (cF_ T)) fun vs H Q E ⟨i,lo,hi,e,h1,h2,q⟩=>⟨.int i,lo,hi,e, .inl ⟨_,rfl⟩,fun _=>q,fun h=>absurd ⟨i,rfl,h1,h2⟩ h⟩
theorem c1_:FnOk P w K mg base CX0 3 T.f3 T.d3 ["d"] (rK_ K):=by
 refine T.X3.F.ok fi_ (fun vs H Q E h=> ?_) (fun cdv A outer s H vs Q E hr h=> ?_)
 .obtain⟨_,rfl,_⟩:=h;rfl
 .obtain⟨i,rfl,h1,h2,kk⟩:=h;refine⟨_,(ad_ (aG_ (ah_ (bB_ T) (hr.mono (by decide)) (by rfl) T.X1.m T.X1.F.kp T.X1.B .nil aq_ (aa_ (pv 0) (aa_ ae_ (aa_ ae_ ab_)))))), ?_⟩;exact⟨_,rfl,i,1,5,rfl,h1,h2,kk⟩
theorem cE_:FnOk P w K mg base CX0 3 T.f2 T.d2 ["d","k"] (rD_ K):=by
 refine T.X2.F.ok g9_ (fun vs H Q E h=> ?_) (fun cdv A outer s H vs Q E hr h=> ?_)
 .obtain⟨_,_,rfl,_⟩:=h;rfl
 .obtain⟨d,k,rfl,hW,kk⟩:=h;refine⟨_,(ac_ (aG_ (ah_ (bB_ T) (hr.mono (by decide)) (by rfl) T.X1.m T.X1.F.kp T.X1.B .nil aq_ (aa_ (pv 0) (aa_ ae_ (aa_ ae_ ab_)))))
   (ad_ (aG_ (ah_ (bB_ T) (hr.mono (by decide)) (by rfl) T.X1.m T.X1.F.kp T.X1.B .nil aq_ (aa_ (pv 1) (aa_ ae_ (aa_ (n7_ (dY_ (v:= .ref T.a_WIDE) (by rfl) T.m_WIDE (by rfl)) (pv 0) (fun _ _=>rfl)) ab_))))))), ?_⟩
  unfold Wide at hW;refine⟨_,rfl,d,1,5,rfl,by lia,by lia, ?_⟩;obtain⟨hi,hl,hN⟩:∃hi:Int,([(1,6),(2,6),(3,6),(4,6),(5,3)]:List (Int×Int)).lookup (d:Int)=some hi/\(k:Int)<=hi:=by
   have hd:d=1\/d=2\/d=3\/d=4\/d=5:=by lia
   rcases hd with rfl|rfl|rfl|rfl|rfl
   .exact⟨6,rfl,by lia⟩
   .exact⟨6,rfl,by lia⟩
   .exact⟨6,rfl,by lia⟩
   .exact⟨6,rfl,by lia⟩
   .exact⟨3,rfl,by lia⟩
  exact⟨_,rfl,_,rfl,T.a_WIDE,_,d,hi,rfl,T.D_WIDE,rfl,hl,k,0,hi,rfl,by lia,hN,kk⟩
theorem d2_:FnOk P w K mg base CX0 4 T.f27 T.d27 ["d","drawing"] (rI_ K):=by
 refine T.X27.F.ok b4_ (fun vs H Q E h=> ?_) (fun cdv A outer s H vs Q E hr h=> ?_)
 .obtain⟨_,_,_,rfl,_⟩:=h;rfl
 .obtain⟨n,dv,ps,rfl,n1',n5',hd,hok,k2⟩:=h;refine⟨_,(ac_ (aG_ (ah_ (c1_ T) (hr.mono (by decide)) (by rfl) T.X3.m T.X3.F.kp T.X3.B .nil aq_ (aa_ (pv 0) ab_)))
   (ac_ (ar_ (i:=2) b4_.nd rfl (by trivial) (al_ eQ_ (au_ (aa_ ae_ ab_)) (pv 0)))
   (ac_ (aD_ AQ rfl (aP_ (pv 1)) (cn_ rfl (as_ (aj_ (i:=3) b4_.nd rfl (by trivial)) (as_ (aj_ (i:=4) b4_.nd rfl (by trivial)) (as_ (aj_ (i:=5) b4_.nd rfl (by trivial)) bd_)))) (ac_ (l4_ (pv 2) (al_ aH_ (pv 3) ae_) kb_ (pv 5) sv_ fX_)
   (ad_ (l4_ (pv 2) (al_ aH_ (pv 4) ae_) kb_ (pv 5) pm_ fX_))))
   (ad_ (ap_ (pv 2)))))), ?_⟩
  refine⟨_,rfl,n,rfl,by lia,by lia, ?_⟩;refine⟨(by show 1<=sizeLine;decide),fun l1 H1 n1 s1 h1=> ?_⟩;refine⟨_,rfl, .i 1,n,cq_ h1 (ai_ e4_ am_),rfl,by lia,by lia,An (ao_ (by lia)),fun l H2 n2 s2 h2=> ?_⟩;rw [Ap] at h2;obtain⟨_,vs2,e2,hl2,hi2⟩:=bT_ h2;cases e2;rw [<-Cb] at hi2;rw [ey_ hi2] at hl2;have s12:=s1.trans s2;obtain⟨da,dvs,rfl,hda,hdi⟩:=bT_ hd;have hlen:dvs.length=ps.length:=by rw [hdi.length,A1]
  refine⟨_,rfl,da,rfl,⟨_,SqL.of (s12 _ _ hda)⟩,aO_ (xs:=dvs) (fun i σ H3=>(∃v3 v4 v5,σ=[some (.int n),some (.ref da),some (.ref l),v3,v4,v5])/\an_ H H3/\H3 l=some (.lst (((ps.take i).foldl d5_ (List.replicate n 1)).map V.int)))
   ⟨⟨none,none,none,rfl⟩,s12,hl2⟩ (fun i σ H3 _ h=>SqL.of (h.2.1 _ _ hda)) ?_ ?_⟩
  .rintro i y σ H3 hi ⟨⟨v3,v4,v5,rfl⟩,s3,hl3⟩;obtain⟨dd,hdd,hy⟩:=hdi.of_get hi;rw [A9] at hdd;obtain⟨p,hp',rfl⟩:=A4.mp hdd;obtain⟨t,rfl,hta⟩:=ht_ hy;obtain⟨o1,o2,o3,o4⟩:=hok p (AU hp');have el:=(gL_ (ps.take i) (List.replicate n 1) (by simp) fun q hq=>hok q (List.mem_of_mem_take hq)).1;have en:(ps.take (i+1)).foldl d5_ (List.replicate n 1)=d5_ ((ps.take i).foldl d5_ (List.replicate n 1)) p:=by
    rw [AZ,hp',CH];rfl
   rw [en];generalize (ps.take i).foldl d5_ (List.replicate n 1)=e at hl3 el⊢;have nl:H l=none:=s1.free n2;refine⟨t,_,rfl,SqT.of (s3 _ _ hta),rfl, ?_⟩;refine⟨_,_,rfl,_,_,rfl,_,_,rfl,rfl, ?_⟩;have j1:(p.1-1).toNat<e.length:=by lia
   have j2:(p.2.1-1).toNat<e.length:=by lia
   have k1:p.1-1=((p.1-1).toNat:Int):=by lia
   have kq:p.2.1-1=((p.2.1-1).toNat:Int):=by lia
   have g1:(e.map V.int)[(p.1-1).toNat]? =some (.int (e.getD (p.1-1).toNat 0)):=by
    exact jc_ j1
   refine⟨_,rfl,_,rfl,_,_,rfl,rfl, ?_⟩;refine⟨l,_,(p.1-1).toNat,_,_,rfl,rfl,k1,SqL.of hl3,g1, ?_⟩;refine⟨_,rfl,_,_,rfl,rfl,l,_,_,(p.1-1).toNat,rfl,rfl,hl3,by rw [k1,A1];exact mJ_ j1, ?_⟩;rw [<-map_set];have j2':(p.2.1-1).toNat<(e.set (p.1-1).toNat (e.getD (p.1-1).toNat 0-p.2.2)).length:=by rw [Bn];exact j2
   have g2:((e.set (p.1-1).toNat (e.getD (p.1-1).toNat 0-p.2.2)).map V.int)[(p.2.1-1).toNat]? =some (.int ((e.set (p.1-1).toNat (e.getD (p.1-1).toNat 0-p.2.2)).getD (p.2.1-1).toNat 0)):=by
    exact jc_ j2'
   refine⟨_,rfl,_,rfl,_,_,rfl,rfl, ?_⟩;refine⟨l,_,(p.2.1-1).toNat,_,_,rfl,rfl,kq,SqL.of ag_,g2, ?_⟩;refine⟨_,rfl,_,_,rfl,rfl,l,_,_,(p.2.1-1).toNat,rfl,rfl,ag_,by rw [kq,A1];exact mJ_ j2', ?_⟩;rw [<-map_set,pJ_];exact⟨⟨_,_,_,rfl⟩,s3.put nl,ag_⟩
  .rintro σ H3 ⟨⟨v3,v4,v5,rfl⟩,s3,hl3⟩;rw [hlen,AW] at hl3;exact⟨_,rfl,k2 l H3 s3 (s1.free n2) hl3⟩
theorem gi_:FnOk P w K mg base CX0 1 T.f29 T.d29 ["lift"] (rF_ K):=by
 refine T.X29.F.ok p2_ (fun vs H Q E h=> ?_) (fun cdv A outer s H vs Q E hr h=> ?_)
 .obtain⟨_,_,rfl,_⟩:=h;rfl
 .obtain⟨v,p,rfl,hv,⟨p1,p2,p3,p4⟩,kk⟩:=h;refine⟨_,(ad_ (ap_ (al_ aH_ (al_ ba_ (al_ aH_ (bp_ aQ_ (pv 0) ae_ (fun _ _=>rfl)) (bp_ aQ_ (pv 0) ae_ (fun _ _=>rfl))) (bp_ aQ_ (pv 0) ae_ (fun _ _=>rfl))) ae_))), ?_⟩;refine⟨_,rfl,_,1,_,hv,rfl,rfl,fun u hu=> ?_⟩;rw [do_ hu];refine⟨_,rfl,_,0,_,hv,rfl,rfl,fun u hu=> ?_⟩;rw [do_ hu];refine⟨_,_,rfl,rfl,_,rfl,_,2,_,hv,rfl,rfl,fun u hu=> ?_⟩;rw [do_ hu];exact⟨_,_,rfl,rfl, .inr ⟨by lia,by lia⟩,_,_,rfl,rfl,kk⟩
theorem gj_:FnOk P w K mg base CX0 2 T.f30 T.d30 ["d","floor","weight","spare"] (tR_ K):=by
 refine T.X30.F.ok bH_ (fun vs H Q E h=> ?_) (fun cdv A outer s H vs Q E hr h=> ?_)
 .obtain⟨_,_,_,_,rfl,_⟩:=h;rfl
 .obtain⟨d,f,n,sp,rfl,fd,d5,n20,kk⟩:=h;refine⟨_,(ac_ (ar_ (i:=4) bH_.nd rfl (by trivial) (au_ ab_))
   (ac_ (aD_ AQ rfl (bv_ (by rfl) T.n_range (aa_ (al_ aE_ (pv 1) ae_) (aa_ (al_ aE_ (pv 0) ae_) ab_))) (aj_ (i:=5) bH_.nd rfl (by trivial)) (ad_ (aD_ AQ rfl (bv_ (by rfl) T.n_range (aa_ ae_ (aa_ (al_ aE_ (pv 2) ae_) ab_))) (aj_ (i:=6) bH_.nd rfl (by trivial)) (ad_ (bl_ (aF_ kT_ (ah_ (gi_ T) (hr.mono (by decide)) (by rfl) T.X29.m T.X29.F.kp T.X29.B .nil aq_ (aa_ (aM_ (aa_ (pv 1) (aa_ (pv 5) (aa_ (pv 6) ab_)))) ab_)) (pv 3) (aL_ _)) (ad_ (aG_ (cT_ Ac B8 B7 a1_ (pv 4) (aa_ (aM_ (aa_ (pv 1) (aa_ (pv 5) (aa_ (pv 6) ab_)))) ab_)))) aB_)))))
   (ad_ (ap_ (pv 4))))), ?_⟩
  refine⟨AM _,fun fo H1 n1 s1 h1=> ?_⟩;refine⟨_,rfl,_,_,rfl,rfl,_,rfl,_,_,rfl,rfl,_,_,rfl,⟨by lia,by lia,by lia,by lia⟩, ?_⟩;rw [show((d:Int)+1-((f:Int)+1)).toNat=d-f by lia];refine aU_ (lo:=(f:Int)+1) (n:=d-f) (fun i σ H2=>(∃v5 v6,σ=[some (.int d),some (.int f),some (.int n),some (.int sp),some (.ref fo),v5,v6])/\an_ H H2/\∃vs,H2 fo=some (.lst vs)/\Iss H2 ((kY_ f i n sp).map lf) vs) ⟨⟨none,none,rfl⟩,s1,[],h1,am_⟩ ?_ ?_
  .rintro i σ H2 hi ⟨⟨v5,v6,rfl⟩,s2,vs2,hfo2,his2⟩;refine⟨_,rfl,_,_,rfl,rfl,_,_,rfl,⟨by decide,by decide,by lia,by lia⟩, ?_⟩;rw [show((n:Int)+1-1).toNat=n by lia];refine aU_ (lo:=1) (n:=n) (fun j σ H3=>(∃v6,σ=[some (.int d),some (.int f),some (.int n),some (.int sp),some (.ref fo),some (.int ((f:Int)+1+(i:Int))),v6])/\an_ H H3/\∃vs,H3 fo=some (.lst vs)/\Iss H3 ((kY_ f i n sp++nC_ f ((f:Int)+1+(i:Int)) j sp).map lf) vs) ⟨⟨v6,rfl⟩,s2,vs2,hfo2,by simpa [nC_] using his2⟩ ?_ ?_
   .rintro j σ H3 hj ⟨⟨v6,rfl⟩,s3,vs3,hfo3,his3⟩;have vl:vs3.length<=200:=by
     rw [his3.length,A1,AC];have a:=gx_ f n sp i;have b:=jV_ f ((f:Int)+1+(i:Int)) j sp;have:i*n<=5*20:=Nat.mul_le_mul (by lia) n20;lia
    refine⟨_,rfl,_,rfl,_,rfl,(by show 3<=sizeLine;decide),fun t H4 nt s4 ht=>⟨.ref t,((f:Int),(f:Int)+1+(i:Int),1+(j:Int)),rfl,mL_ ht,⟨?_, ?_, ?_, ?_⟩,_,rfl,_,_,rfl,rfl,_,rfl,hP_ (fun c=> ?_) (fun c=> ?_)⟩⟩
    .show 0<=(f:Int)+1+(i:Int)-(f:Int);lia
    .show(f:Int)+1+(i:Int)-(f:Int)<=10;lia
    .show 1<=1+(j:Int);lia
    .show 1+(j:Int)<=20;lia
    .refine⟨_,rfl, .inl ⟨rfl,_,SqL.of (s4 _ _ hfo3)⟩,_,rfl,_,rfl,_,rfl,(by show 3<=sizeLine;decide),fun t2 H5 nt2 s5 ht2=>⟨fo,vs3,_,rfl,rfl,s5 _ _ (s4 _ _ hfo3),ao_ (by lia),⟨_,rfl⟩,(s3.trans (s4.trans s5)).put n1,_,ag_, ?_⟩⟩;rw [hB_,A7 c,<-BA];refine j8_ (by_.upd (s5 _ _ (s4 _ _ hfo3))) ?_;rw [AG];exact(his3.mono (s4.trans s5)).append (ai_ (mL_ ht2) am_)
    .refine⟨⟨_,rfl⟩,s3.trans s4,vs3,s4 _ _ hfo3, ?_⟩;rw [hB_,A5 c,Av];exact his3.mono s4
   .rintro σ H3 ⟨⟨v6,rfl⟩,s3,vs3,hfo3,his3⟩;exact⟨⟨_,_,rfl⟩,s3,vs3,hfo3,by rw [hC_];exact his3⟩
  .rintro σ H2 ⟨⟨v5,v6,rfl⟩,s2,vs2,hfo2,his2⟩;exact⟨_,rfl,kk fo H2 s2 n1 (cq_ hfo2 his2)⟩
theorem fB_:∀n:Nat,FnOk P w K mg base CX0 (n+1) T.f31 T.d31 ["lifts","weight","spare"] (rG_ n K)
 |0=>⟨fun vs H Q E h=>by obtain⟨_,_,_,_,_,_,_,h,h',_⟩:=h;lia,fun A outer s H args us vs Q E _ _ _ _ h=>by obtain⟨_,_,_,_,_,_,_,h,h',_⟩:=h;lia⟩
 |n+1=>by
  have ih:=fB_ n;refine T.X31.F.ok b3_ (fun vs H Q E h=> ?_) (fun cdv A outer s H vs Q E hr h=> ?_)
  .obtain⟨_,_,_,_,rfl,_⟩:=h;rfl
  .obtain⟨v,ls,wt,sp,rfl,hv,hok,w0,w1,hL,hl,hn,kk⟩:=h;refine⟨_,(ac_ (ar_ (i:=3) b3_.nd rfl (by trivial) (au_ (aa_ (au_ ab_) ab_)))
   (ac_ (aD_ AQ rfl (iP_ (by rfl) T.n_enumerate (pv 0)) (cn_ rfl (as_ (aj_ (i:=4) b3_.nd rfl (by trivial)) (as_ (aj_ (i:=5) b3_.nd rfl (by trivial)) bd_))) (ad_ (bl_ (o5_ (aF_ kT_ (bp_ aQ_ (pv 5) ae_ (fun _ _=>rfl)) (pv 1) (aL_ _)) (l3_ (aF_ kT_ (ah_ (gi_ T) (hr.mono (by lia)) (by rfl) T.X29.m T.X29.F.kp T.X29.B .nil aq_ (aa_ (pv 5) ab_)) (pv 2) (aL_ _)))).pt (ad_ (aD_ AQ rfl (aP_ (ah_ ih hr (by rfl) T.X31.m T.X31.F.kp T.X31.B .nil aq_ (aa_ (f9_ pZ_ (pv 0) (iN_ (pv 4)) iO_) (aa_ (al_ aH_ (pv 1) (bp_ aQ_ (pv 5) ae_ (fun _ _=>rfl))) (aa_ (al_ aH_ (pv 2) (ah_ (gi_ T) (hr.mono (by lia)) (by rfl) T.X29.m T.X29.F.kp T.X29.B .nil aq_ (aa_ (pv 5) ab_))) ab_))))) (aj_ (i:=6) b3_.nd rfl (by trivial)) (ad_ (aG_ (cT_ Ac B8 B7 a1_ (pv 3) (aa_ (al_ gc_ (au_ (aa_ (pv 5) ab_)) (pv 6)) ab_)))))) aB_)))
   (ad_ (ap_ (pv 3))))), ?_⟩
   obtain⟨da,dvs,rfl,hda,hdi⟩:=bT_ hv;have dlen:dvs.length=ls.length:=by rw [hdi.length,A1]
   refine⟨AM _,fun e0 H1 ne s1 he=>⟨(by show 1<=sizeLine;decide),fun fo H2 nf s2 hfo=> ?_⟩⟩;have nfH:H fo=none:=s1.free nf;have e0fo:e0≠fo:=by rintro rfl;rw [he] at nf;cases nf
   have acc0:Acc H H2 fo (([[]]:List (List Lf)).map lfs):=⟨[.ref e0],hfo,ai_ (cq_ (vs:=[]) (by rw [mS_ e0fo,cH_ ne];exact s2 _ _ he) am_) am_⟩;have tot:∀i:Nat,i<ls.length->1+((List.range i).flatMap (d6_ n ls wt sp)).length+(d6_ n ls wt sp i).length<=1000:=fun i hi=>by
    have:=f6_ (d6_ n ls wt sp) hi;rw [eX_,AC,BS] at hL;lia
   refine⟨_,rfl,da,rfl,⟨_,SqL.of (s2 _ _ (s1 _ _ hda))⟩,kf_ (xs:=dvs) (fun i σ H3=>(∃v4 v5 v6,σ=[some (.ref da),some (.int wt),some (.int sp),some (.ref fo),v4,v5,v6])/\an_ H H3/\Acc H H3 fo (([[]]++(List.range i).flatMap (d6_ n ls wt sp)).map lfs)) ⟨⟨none,none,none,rfl⟩,s1.trans s2,by simpa using acc0⟩ (fun i σ H3 _ h=>SqL.of (h.2.1 _ _ hda)) ?_ ?_⟩
   .rintro i y σ H3 pa hi ⟨⟨v4,v5,v6,rfl⟩,s3,hacc⟩ np;obtain⟨dd,hdd,hy⟩:=hdi.of_get hi;rw [A9] at hdd;obtain⟨p,hp',rfl⟩:=A4.mp hdd;have hil:i<ls.length:=(AD.mp hp').1;obtain⟨p1,p2,p3,p4⟩:=id (hok p (AU hp'));have tt:=tot i hil;have s34:an_ H3 (upd H3 pa (.tup [.int i,y])):=an_.new np;have hacc4:=hacc.mono s34;have stay:d6_ n ls wt sp i=[]->Acc H (upd H3 pa (.tup [.int i,y])) fo (([[]]++(List.range (i+1)).flatMap (d6_ n ls wt sp)).map lfs):=fun e=>by
     rw [bk_,e,Av];exact hacc4
    have hlf:Is (upd H3 pa (.tup [.int i,y])) (lf p) y:=(hy.mono s3).mono s34;refine⟨pa,_,rfl,SqT.of ag_,rfl,_,_,rfl,_,_,rfl,rfl, ?_⟩;generalize upd H3 pa (.tup [.int i,y])=H4 at s34 hacc4 stay hlf⊢;have s4:an_ H H4:=s3.trans s34;refine⟨_,rfl,_,2,_,hlf,rfl,rfl,fun u hu=> ?_⟩;rw [do_ hu];refine⟨_,rfl,_,_,rfl,rfl,_,rfl,hP_ (fun c1=> ?_) (fun c1=> ?_)⟩
    .refine⟨_,rfl,y,p,rfl,hlf,⟨p1,p2,p3,p4⟩,_,rfl,_,_,rfl,rfl,_,rfl,hP_ (fun c2=> ?_) (fun c2=> ?_)⟩
     .have eG:d6_ n ls wt sp i=(cU_ n (ls.drop i) (wt-p.2.2) (sp-bK_ p)).map (p:: ·):=by
       unfold d6_;rw [hp'];exact A7 ⟨c1,c2⟩
      rw [eG,A1] at tt;refine⟨_,rfl,_,rfl,i,rfl,da,_,rfl,SqL.of (s4 _ _ hda), ?_⟩;rw [h0_ (by lia)];intro l2 n2;have s45:an_ H4 (upd H4 l2 (.lst (dvs.drop i))):=an_.new n2;have hl2:(upd H4 l2 (.lst (dvs.drop i))) l2=some (.lst (dvs.drop i)):=ag_;generalize upd H4 l2 (.lst (dvs.drop i))=H5 at s45 hl2⊢;have s5:=s4.trans s45;have hdr:Is H5 (lfs (ls.drop i)) (.ref l2):=cq_ hl2 (by rw [List.map_drop];exact(hdi.drop i).mono s5);refine⟨_,rfl,_,rfl,_,2,_,hlf.mono s45,rfl,rfl,fun u hu=> ?_⟩;rw [do_ hu];refine⟨_,_,rfl,rfl,_,rfl,_,rfl,y,p,rfl,hlf.mono s45,⟨p1,p2,p3,p4⟩,_,_,rfl,rfl, ?_⟩;refine⟨.ref l2,ls.drop i,wt-p.2.2,sp-bK_ p,rfl,hdr,fun q hq=>hok q (D2 hq),by lia,by lia,by lia,by rw [List.length_drop];lia,by lia,fun rl H6 s6 nrl hrl=> ?_⟩;obtain⟨vs5,hfo5,hi5⟩:=hacc4.mono s45;have hfo6:H6 fo=some (.lst vs5):=s6 _ _ hfo5;obtain⟨_,rvs,e,hrl',hri⟩:=bT_ hrl;cases e;have hrl6:H6 rl=some (.lst rvs):=bg_ _ _ hrl';have rlfo:rl≠fo:=by rintro rfl;rw [hfo5] at nrl;cases nrl
      have rlen:rvs.length=(cU_ n (ls.drop i) (wt-p.2.2) (sp-bK_ p)).length:=by rw [hri.length,A1]
      have hriH:Iss (hid H6 fo) ((cU_ n (ls.drop i) (wt-p.2.2) (sp-bK_ p)).map lfs) rvs:=(hri.mono (jM_ (an_.refl H5) hfo5)).mono (dH_ bg_);have s56:=s5.trans s6;refine⟨rl,rfl,⟨_,SqL.of hrl6⟩,aO_ (xs:=rvs) (fun j σ H7=>(∃v6,σ=[some (.ref da),some (.int wt),some (.int sp),some (.ref fo),some (.int i),some y,v6])/\an_ H H7/\But fo H6 H7/\Acc H H7 fo (([[]]++(List.range i).flatMap (d6_ n ls wt sp)++((cU_ n (ls.drop i) (wt-p.2.2) (sp-bK_ p)).take j).map (p:: ·)).map lfs)) ⟨⟨_,rfl⟩,s56,fun _ _ e _=>e,by simpa using (hacc4.mono s45).mono s6⟩ (fun j σ H7 _ h=>SqL.of (h.2.2.1 _ _ hrl6 rlfo)) ?_ ?_⟩
      .rintro j x σ H7 hj ⟨⟨v6,rfl⟩,s7,but7,vs7,hfo7,hi7⟩;obtain⟨dd,hdd,hx⟩:=hriH.of_get hj;rw [A9] at hdd;obtain⟨r,hr',rfl⟩:=A4.mp hdd;have hjl:j<(cU_ n (ls.drop i) (wt-p.2.2) (sp-bK_ p)).length:=(AD.mp hr').1;have hx7:Is H7 (lfs r) x:=hx.mono (mR_ but7);have ritem:=(eY_ (fun q hq=>(hok q (D2 hq)).2.2.1) (by lia) (AU hr')).1;have vl:vs7.length<=999:=by
        rw [hi7.length,A1,AC,AC,A1,B4,BS];lia
       have hy7:Is H7 (lf p) y:=hy.mono s7;refine⟨_,rfl, .inl ⟨rfl,_,SqL.of hfo7⟩,_,rfl,(by show 1<=sizeLine;decide),fun q1 H8 n8 s8 h8=>⟨_,rfl,[lf p],r.map lf,cq_ h8 (ai_ (hy7.mono s8) am_),hx7.mono s8,An (ao_ (by rw [A1];show 1+r.length<=1000;lia)),fun q2 H9 n9 s9 h9=> ?_⟩⟩;have s79:=s8.trans s9;refine⟨fo,vs7,_,rfl,rfl,s79 _ _ hfo7,ao_ (by lia),⟨_,rfl⟩,(s7.trans s79).put nfH,but7.trans ((But.of_same s79).trans But.upd), ?_⟩;rw [AZ,hr'];have:=Acc.add s7 s79 hfo7 hi7 (pe_ (ps:=p::r) s79 (s8.free n9) h9);simpa using this
      .rintro σ H7 ⟨⟨v6,rfl⟩,s7,_,hacc7⟩;refine⟨⟨_,_,_,rfl⟩,s7, ?_⟩;rw [rlen,AW,<-eG,BA,<-bk_] at hacc7;exact hacc7
     .refine⟨⟨_,_,_,rfl⟩,s4,stay ?_⟩;unfold d6_;rw [hp'];exact A5 fun z=>c2 z.2
    .refine gF_ ⟨⟨_,_,_,rfl⟩,s4,stay ?_⟩;unfold d6_;rw [hp'];exact A5 fun z=>c1 z.1
   .rintro σ H3 ⟨⟨v4,v5,v6,rfl⟩,s3,hacc⟩;rw [dlen,<-eX_] at hacc;exact⟨_,rfl,kk fo H3 s3 nfH (hacc.is nfH)⟩
theorem ge_:FnOk P w K mg base CX0 10 T.f32 T.d32 ["d","floor","drawing","spare"] (rC_ K):=by
 refine T.X32.F.ok a3_ (fun vs H Q E h=> ?_) (fun cdv A outer s H vs Q E hr h=> ?_)
 .obtain⟨_,_,_,_,rfl,_⟩:=h;rfl
 .obtain⟨d,f,v,x,rfl,fd,d5,hv,hst,kk⟩:=h;refine⟨_,(ac_ (ar_ (i:=4) a3_.nd rfl (by trivial) (bp_ dm_ (ah_ (d2_ T) (hr.mono (by decide)) (by rfl) T.X27.m T.X27.F.kp T.X27.B .nil aq_ (aa_ (pv 0) (aa_ (pv 2) ab_))) (al_ aH_ (pv 1) ae_) (fun _ _=>rfl)))
   (ac_ (ar_ (i:=5) a3_.nd rfl (by trivial) (au_ ab_))
   (ac_ (aD_ AQ rfl (aP_ (ah_ (fB_ T 8) (hr.mono (by decide)) (by rfl) T.X31.m T.X31.F.kp T.X31.B .nil aq_ (aa_ (ah_ (gj_ T) (hr.mono (by decide)) (by rfl) T.X30.m T.X30.F.kp T.X30.B .nil aq_ (aa_ (pv 0) (aa_ (pv 1) (aa_ (pv 4) (aa_ (pv 3) ab_))))) (aa_ (pv 4) (aa_ (pv 3) ab_))))) (aj_ (i:=6) a3_.nd rfl (by trivial)) (ac_ (ar_ (i:=7) a3_.nd rfl (by trivial) (al_ aH_ (pv 4) (az_ (dK_ rfl) (by rfl) T.n_sum boot_sum (aa_ (bV_ (XN:=["d","floor","drawing","spare","there","found","lifts","ends","left"]) (sc:=af_ bt_) (N:=["lift"]) (own:=1) (js:=[]) rfl (by ac_nf) rfl rfl (aP_ (pv 6)) (fun _ _ _ _=>(aj_ (i:=0) (show List.Nodup (["lift"]:List Str) by ac_nf) rfl (Or.inl rfl) (.inr rfl))) (cD_ (by decide)) (fun _ _ _ _=>cf_) (fun _ _ _ _=>(bp_ aQ_ (pv 0) ae_ (fun _ _=>rfl)))) ab_))))
   (ac_ (ar_ (i:=8) a3_.nd rfl (by trivial) (al_ aH_ (al_ aH_ (pv 3) (az_ (dK_ rfl) (by rfl) T.n_sum boot_sum (aa_ (bV_ (XN:=["d","floor","drawing","spare","there","found","lifts","ends","left"]) (sc:=af_ bt_) (N:=["lift"]) (own:=1) (js:=[]) rfl (by ac_nf) rfl rfl (aP_ (pv 6)) (fun _ _ _ _=>(aj_ (i:=0) (show List.Nodup (["lift"]:List Str) by ac_nf) rfl (Or.inl rfl) (.inr rfl))) (cD_ (by decide)) (fun _ _ _ _=>cf_) (fun _ _ _ _=>(ah_ (gi_ T) (hr.mono (by decide)) (by rfl) T.X29.m T.X29.F.kp T.X29.B .nil aq_ (aa_ (pv 0) ab_)))) ab_))) (al_ ba_ (pv 7) (al_ aH_ (pv 0) (pv 1)))))
   (ad_ (bl_ (aF_ qj_ (pv 8) ae_ (aL_ _)) (ad_ (aG_ (cT_ Ac B8 B7 a1_ (pv 5) (aa_ (aM_ (aa_ (al_ gc_ (pv 2) (pv 6)) (aa_ (pv 8) ab_))) ab_)))) aB_)))))
   (ad_ (ap_ (pv 5)))))), ?_⟩
  obtain⟨b1,b2,b3,b4,b5,b6,b7⟩:=pT_ hst;have okl:∀p∈x.1,Okl d p:=fun p hp=>by
   obtain⟨o1,o2,o3,o4,o5⟩:=gd_.mp (b1 p hp);exact⟨o1,by lia,by lia,o3⟩
  have elen:=eA_ d x.1 okl;refine⟨_,rfl,_,rfl,d,v,x.1,rfl,by lia,d5,hv,okl,fun el H1 s1 nel hel=> ?_⟩;refine⟨_,rfl,_,_,rfl,rfl,el,_,_, .int (thF d (f+1) x.1),rfl,rfl,SqL.of hel,tf_ (j:=f) (by lia) (by rw [jc_ (by lia)];rfl), ?_⟩;unfold eC_ at kk;generalize thF d (f+1) x.1=th at b3 b4 b7 kk⊢;obtain⟨n,rfl⟩:=BJ b3;refine⟨AM _,fun fo H2 nf s2 hfo=> ?_⟩;have nfH:H fo=none:=s1.free nf;have s02:=s1.trans s2;refine⟨_,rfl,_,rfl,_,rfl,_,rfl,d,f+1,n,x.2,rfl,by lia,d5,by lia,fun l0 H3 s3 nl0 hl0=> ?_⟩;refine⟨_,rfl,_,rfl, .ref l0,kY_ ((f+1:Nat):Int) (d-(f+1)) n x.2,(n:Int),x.2,rfl,hl0,fun p hp=> ?_,by lia,by lia, ?_, ?_,by decide,fun rl H4 s4 nrl hrl=> ?_⟩
  .obtain⟨e1,e2,e3,e4,e5⟩:=i7_ hp;exact⟨by lia,by lia,by lia,by lia⟩
  .exact B6 b7 (by decide)
  .have:=gx_ ((f+1:Nat):Int) n x.2 (d-(f+1));have:(d-(f+1))*n<=5*8:=Nat.mul_le_mul (by lia) (by lia);lia
  have eL:cU_ 8 (kY_ ((f+1:Nat):Int) (d-(f+1)) n x.2) (n:Int) x.2=qv_ d (f+1) n x.2:=by unfold qv_;rw [Ap]
  have hitem:∀r∈qv_ d (f+1) n x.2,r.length<=8/\0<=(r.map (·.2.2)).sum/\(r.map (·.2.2)).sum<=(n:Int)/\∀p∈r,Lok p:=fun r hr=>by
   rw [<-eL] at hr;obtain⟨i1,i2,i3,i4⟩:=eY_ (fun q hq=>(i7_ hq).2.2.2.1) (by lia) hr;exact⟨i1,i2,i3,fun p hp=>by
    obtain⟨e1,e2,e3,e4,e5⟩:=i7_ (i4 p hp);exact⟨by lia,by lia,by lia,by lia⟩⟩
  rw [eL] at hrl;generalize qv_ d (f+1) n x.2=L at hrl hitem kk b7;have s03:=s02.trans s3;have hfo3:H3 fo=some (.lst []):=s3 _ _ hfo;have hfo4:H4 fo=some (.lst []):=s4 _ _ hfo3;obtain⟨_,rvs,e,hrl',hri⟩:=bT_ hrl;cases e;have hrl4:H4 rl=some (.lst rvs):=bg_ _ _ hrl';have rlfo:rl≠fo:=by rintro rfl;rw [hfo3] at nrl;cases nrl
  have rlen:rvs.length=L.length:=by rw [hri.length,A1]
  have hriH:Iss (hid H4 fo) (L.map lfs) rvs:=(hri.mono (jM_ (an_.refl H3) hfo3)).mono (dH_ bg_);have s04:=s03.trans s4;refine⟨rl,rfl,⟨_,SqL.of hrl4⟩,aO_ (xs:=rvs) (fun j σ H5=>(∃v6 v7 v8,σ=[some (.int d),some (.int ((f+1:Nat):Int)),some v,some (.int x.2),some (.int n),some (.ref fo),v6,v7,v8])/\an_ H H5/\But fo H4 H5/\Acc H H5 fo ((((L.take j).filter fun ls=>decide (0<=gy_ d (f+1) n x.2 ls)).map fun ls=>(x.1++ls,gy_ d (f+1) n x.2 ls)).map stD)) ⟨⟨none,none,none,rfl⟩,s04,fun _ _ e _=>e,Acc.start hfo4⟩ (fun j σ H5 _ h=>SqL.of (h.2.2.1 _ _ hrl4 rlfo)) ?_ ?_⟩
  .rintro j y σ H5 hj ⟨⟨v6,v7,v8,rfl⟩,s5,but5,vs5,hfo5,hi5⟩;obtain⟨dd,hdd,hy⟩:=hriH.of_get hj;rw [A9] at hdd;obtain⟨r,hr',rfl⟩:=A4.mp hdd;have hy5:Is H5 (lfs r) y:=hy.mono (mR_ but5);obtain⟨i1,i2,i3,i4⟩:=hitem r (AU hr');obtain⟨ya,ys,rfl,hya,hyi⟩:=bT_ hy5;have ylen:ys.length=r.length:=by rw [hyi.length,A1]
   have vl:vs5.length<=200:=by
    rw [hi5.length,A1,A1];refine B6 (List.length_filter_le _ _) ?_;rw [B4];lia
   refine⟨_,rfl,_,rfl,ya,rfl,⟨_,SqL.of hya⟩,fun acc na=> ?_⟩;refine dJ_ (xs:=ys) (own:=1) (js:=[]) (fun i H6=>an_ H5 H6/\H6 acc=some (.lst (((r.take i).map (·.2.2)).map V.int))) ⟨an_.new na,ag_⟩ (fun i H6 _ h=>SqL.of (h.1 _ _ hya)) ?_ ?_ cJ_ cg_ ?_
   .rintro i z H6 hz ⟨s6,hacc⟩;obtain⟨dd,hdd,hzi⟩:=hyi.of_get hz;rw [A9] at hdd;obtain⟨p,hp',rfl⟩:=A4.mp hdd;refine s8_ ?_;refine⟨_,rfl,_,2,_,hzi.mono s6,rfl,rfl,fun u hu=> ?_⟩;rw [do_ hu];refine⟨acc,_,_,rfl,rfl,hacc,ao_ ?_,s6.put na, ?_⟩
    .rw [A1,A1,B4];lia
    .rw [ag_,AZ,hp',AG,AG];rfl
   .rintro H6 ⟨s6,hacc⟩;rw [ylen,AW] at hacc;refine⟨acc,_,rfl,SqL.of hacc,_,_,rfl,rfl, ?_⟩;clear hacc;refine⟨_,rfl,_,rfl,ya,rfl,⟨_,SqL.of (s6 _ _ hya)⟩,fun ac2 na2=> ?_⟩;refine dJ_ (xs:=ys) (own:=1) (js:=[]) (fun i H7=>an_ H6 H7/\H7 ac2=some (.lst (((r.take i).map bK_).map V.int))) ⟨an_.new na2,ag_⟩ (fun i H7 _ h=>SqL.of (h.1 _ _ (s6 _ _ hya))) ?_ ?_ cJ_ cg_ ?_
    .rintro i z H7 hz ⟨s7,hacc⟩;obtain⟨dd,hdd,hzi⟩:=hyi.of_get hz;rw [A9] at hdd;obtain⟨p,hp',rfl⟩:=A4.mp hdd;refine s8_ ?_;refine⟨_,rfl,z,p,rfl,(hzi.mono s6).mono s7,i4 p (AU hp'),ac2,_,_,rfl,rfl,hacc,ao_ ?_,s7.put na2, ?_⟩
     .rw [A1,A1,B4];lia
     .rw [ag_,AZ,hp',AG,AG];rfl
    .rintro H7 ⟨s7,hacc⟩;rw [ylen,AW] at hacc;have s57:=s6.trans s7;refine⟨ac2,_,rfl,SqL.of hacc,_,_,rfl,rfl,_,rfl,_,rfl,_,rfl,_,_,rfl,rfl,_,_,rfl,rfl, .inr ⟨by lia,by lia⟩,_,_,rfl,rfl, ?_⟩;refine⟨_,rfl,_,_,rfl,rfl,_,rfl,hP_ (fun c=> ?_) (fun c=> ?_)⟩
     .have hv7:Is H7 (lfs x.1) v:=(hv.mono s5).mono s57;refine⟨_,rfl, .inl ⟨rfl,_,SqL.of (s57 _ _ hfo5)⟩,_,rfl,_,rfl,x.1.map lf,r.map lf,hv7,hy5.mono s57,An (ao_ (by rw [A1,A1];lia)),fun q1 H8 n8 s8 h8=>⟨_,rfl,(by show 2<=sizeLine;decide),fun t H9 nt s9 ht=> ?_⟩⟩;have s59:=s57.trans (s8.trans s9);refine⟨fo,vs5,_,rfl,rfl,s59 _ _ hfo5,ao_ (by lia),⟨_,_,_,rfl⟩,(s5.trans s59).put nfH,but5.trans ((But.of_same s59).trans But.upd), ?_⟩;rw [AZ,hr',Cc];have ef:(Option.toList (some r)).filter (fun ls=>decide (0<=gy_ d (f+1) n x.2 ls))=[r]:=by
       have c':0<=gy_ d (f+1) n x.2 r:=c;simp [c']
      rw [ef,AG,AG];rw [<-AG] at h8;have isx:Is (nw H5 H9) (stD (x.1++r,gy_ d (f+1) n x.2 r)) (.ref t):=gX_ (by rw [cH_ ((s57.trans s8).free nt)];exact ht) (ai_ (pe_ s59 (s57.free n8) (Is.mono (s:=s9) h8)) (ai_ e4_ am_));exact Acc.add s5 s59 hfo5 hi5 isx
     .refine⟨⟨_,_,_,rfl⟩,s5.trans s57,but5.trans (But.of_same s57), ?_⟩;rw [AZ,hr',Cc];have ef:(Option.toList (some r)).filter (fun ls=>decide (0<=gy_ d (f+1) n x.2 ls))=[]:=by
       have c':¬0<=gy_ d (f+1) n x.2 r:=c;simp [c']
      rw [ef,Av];exact Acc.mono s57 ⟨vs5,hfo5,hi5⟩
    .rintro σ H R R' k ⟨v1,e1,v2,p,e2,h1,h2,h⟩;exact⟨v1,e1,v2,p,e2,h1,h2,k _ _ h⟩
   .rintro σ H R R' k ⟨v1,e1,xs,i,d,h1,e2,e3,h⟩;exact⟨v1,e1,xs,i,d,h1,e2,e3,fun u hu=>k _ _ (h u hu)⟩
  .rintro σ H5 ⟨⟨v6,v7,v8,rfl⟩,s5,_,hacc⟩;rw [rlen,AW] at hacc;exact⟨_,rfl,kk fo H5 s5 nfH (hacc.is nfH)⟩
theorem iX_:FnOk P w K mg base CX0 11 T.f33 T.d33 ["d","k"] (rJ_ K):=by
 refine T.X33.F.ok a8_ (fun vs H Q E h=> ?_) (fun cdv A outer s H vs Q E hr h=> ?_)
 .obtain⟨_,_,rfl,_⟩:=h;rfl
 .obtain⟨d,k,rfl,hW,kk⟩:=h;refine⟨_,(ac_ (aG_ (ah_ (cE_ T) (hr.mono (by decide)) (by rfl) T.X2.m T.X2.F.kp T.X2.B .nil aq_ (aa_ (pv 0) (aa_ (pv 1) ab_))))
   (ac_ (ar_ (i:=2) a8_.nd rfl (by trivial) (au_ (aa_ (aM_ (aa_ (au_ ab_) (aa_ (pv 1) ab_))) ab_)))
   (ac_ (aD_ AQ rfl (bv_ (by rfl) T.n_range (aa_ ae_ (aa_ (al_ aE_ (pv 0) ae_) ab_))) (aj_ (i:=3) a8_.nd rfl (by trivial)) (ac_ (ar_ (i:=4) a8_.nd rfl (by trivial) (au_ ab_))
   (ac_ (aD_ AQ rfl (aP_ (pv 2)) (cn_ rfl (as_ (aj_ (i:=5) a8_.nd rfl (by trivial)) (as_ (aj_ (i:=6) a8_.nd rfl (by trivial)) bd_))) (ad_ (aG_ (cT_ Ac C7 C6 cI_ (pv 4) (aa_ (ah_ (ge_ T) (hr.mono (by decide)) (by rfl) T.X32.m T.X32.F.kp T.X32.B .nil aq_ (aa_ (pv 0) (aa_ (pv 3) (aa_ (pv 5) (aa_ (pv 6) ab_))))) ab_)))))
   (ad_ (ar_ (i:=2) a8_.nd rfl (by trivial) (pv 4))))))
   (ad_ (ap_ (az_ (fp_ hr) (by rfl) T.n_sorted boot_sorted (aa_ (bV_ (XN:=["d","k","begun","floor","longer","drawing","spare"]) (sc:=af_ cO_) (N:=["drawing","spare"]) (own:=2) (js:=[]) rfl (by ac_nf) rfl rfl (aP_ (pv 2)) (fun _ _ _ _=>(iQ_ (K:=K) rfl rfl (as_ (aj_ (i:=0) (show List.Nodup (["drawing","spare"]:List Str) by ac_nf) rfl (Or.inl rfl) (.inr rfl)) (as_ (aj_ (i:=1) (show List.Nodup (["drawing","spare"]:List Str) by ac_nf) rfl (Or.inl rfl) (.inr rfl)) bd_)))) eP_ (fun _ _ _ _=>(n2_ (aF_ iS_ (pv 1) ae_ (aL_ _)))) (fun _ _ _ _=>(pv 0))) ab_))))))), ?_⟩
  obtain⟨g1,g2,g3,_⟩:=sK_ hW;obtain⟨gA,gB⟩:=ql_ g1;have d15:1<=d/\d<=5:=by unfold Wide at hW;lia
  refine⟨_,rfl,_,rfl,d,k,rfl,hW, ?_⟩;refine⟨AM _,fun e0 H1 ne0 s1 he0=>⟨_,rfl,(by show 2<=sizeLine;decide),fun t0 H2 nt0 s2 ht0=>⟨(by show 1<=sizeLine;decide),fun bg H3 nb s3 hbg=> ?_⟩⟩⟩;have s03:=(s1.trans s2).trans s3;have nbH:H bg=none:=(s1.trans s2).free nb;have is0:Is (nw H H3) (.l ((fq_ d k 0).map stD)) (.ref bg):=cq_ (by rw [cH_ nbH];exact hbg) (ai_ (gX_ (by rw [cH_ (s1.free nt0)];exact s3 _ _ ht0) (ai_ (cq_ (vs:=[]) (by rw [cH_ ne0];exact s3 _ _ (s2 _ _ he0)) am_) (ai_ e4_ am_))) am_);refine⟨_,rfl,_,_,rfl,rfl,_,_,rfl,⟨by decide,by decide,by lia,by lia⟩, ?_⟩;rw [show((d:Int)+1-1).toNat=d by lia];refine aU_ (lo:=1) (n:=d) (fun f σ H4=>∃bg,(∃v3 v4 v5 v6,σ=[some (.int d),some (.int k),some (.ref bg),v3,v4,v5,v6])/\an_ H H4/\Is (nw H H4) (.l ((fq_ d k f).map stD)) (.ref bg)) ⟨bg,⟨none,none,none,none,rfl⟩,s03,is0⟩ ?_ ?_
  .clear is0 s03 nbH hbg;rintro f σ H4 hf ⟨bg,⟨v3,v4,v5,v6,rfl⟩,s4,hbg⟩;obtain⟨hst,hlen⟩:=gA f hf;refine⟨AM _,fun lo H5 nlo s5 hlo=> ?_⟩;have hbg4:=hbg.mono bg_;obtain⟨_,bvs,e,hb4,hbi⟩:=bT_ hbg4;cases e;have blen:bvs.length=(fq_ d k f).length:=by rw [hbi.length,A1]
   refine⟨_,rfl,bg,rfl,⟨_,SqL.of (s5 _ _ hb4)⟩,aO_ (xs:=bvs) (fun j σ H6=>(∃v5 v6,σ=[some (.int d),some (.int k),some (.ref bg),some (.int (1+(f:Int))),some (.ref lo),v5,v6])/\an_ H4 H6/\Acc H4 H6 lo ((((fq_ d k f).take j).flatMap fun x=>eC_ d (f+1) x.1 x.2).map stD)) ⟨⟨_,_,rfl⟩,s5,Acc.start hlo⟩ (fun j σ H6 _ h=>SqL.of (h.2.1 _ _ hb4)) ?_ ?_⟩
   .rintro j y σ H6 hj ⟨⟨v5,v6,rfl⟩,s6,vs6,hlo6,hi6⟩;obtain⟨dd,hdd,hy⟩:=hbi.of_get hj;rw [A9] at hdd;obtain⟨x,hx',rfl⟩:=A4.mp hdd;obtain⟨t,u,rfl,ht,hu⟩:=sc_ (hy.mono s6);have e1:(1+(f:Int))=((f+1:Nat):Int):=by lia
    have tk:(((fq_ d k f).take (j+1)).flatMap fun x=>eC_ d (f+1) x.1 x.2)=(((fq_ d k f).take j).flatMap fun x=>eC_ d (f+1) x.1 x.2)++eC_ d (f+1) x.1 x.2:=by
     rw [AZ,hx',B0];simp
    have vl:vs6.length+(eC_ d (f+1) x.1 x.2).length<=900:=by
     rw [hi6.length,A1];have hjl:j<(fq_ d k f).length:=(AD.mp hx').1;have:(((fq_ d k f).take (j+1)).flatMap fun x=>eC_ d (f+1) x.1 x.2).length<=(fq_ d k (f+1)).length:=by
      show _<=((fq_ d k f).flatMap fun x=>eC_ d (f+1) x.1 x.2).length
      conv=>rhs;rw [<-Cv (j+1) (fq_ d k f)]
      rw [B0,AC];lia
     rw [tk,AC] at this;lia
    refine⟨t,_,rfl,SqT.of ht,rfl,_,_,rfl,_,_,rfl,rfl, ?_⟩;refine⟨_,rfl, .inl ⟨rfl,_,SqL.of hlo6⟩,_,rfl,_,rfl,_,rfl,_,rfl,d,f,u,x,by rw [e1];rfl,hf,d15.2,hu,hst x (AU hx'),fun wl H7 s7 nwl hwl=> ?_⟩;obtain⟨_,us,e,hwl',hwi⟩:=bT_ hwl;cases e;have ul:us.length=(eC_ d (f+1) x.1 x.2).length:=by rw [hwi.length,A1]
    refine⟨lo,wl,vs6,us,rfl,rfl,s7 _ _ hlo6,bg_ _ _ hwl',An (ao_ (by lia)),⟨_,_,rfl⟩,(s6.trans s7).put nlo, ?_⟩;rw [tk,AG];exact Acc.adds s6 s7 hlo6 hi6 hwi
   .rintro σ H6 ⟨⟨v5,v6,rfl⟩,s6,hacc⟩;rw [blen,AW] at hacc;exact⟨_,rfl,lo,⟨_,_,_,_,rfl⟩,s4.trans s6,(hacc.is nlo).mono (gk_ s4)⟩
  .clear is0 s03 nbH hbg;rintro σ H4 ⟨bg,⟨v3,v4,v5,v6,rfl⟩,s4,hbg⟩;obtain⟨_,bvs,e,hb4,hbi⟩:=bT_ hbg;cases e;have hb4':=bg_ _ _ hb4;have blen:bvs.length=(fq_ d k d).length:=by rw [hbi.length,A1]
   refine⟨_,rfl,bg,rfl,⟨_,SqL.of hb4'⟩,fun acc na=> ?_⟩;refine dJ_ (xs:=bvs) (own:=2) (js:=[]) (fun j H5=>an_ H4 H5/\∃vs,H5 acc=some (.lst vs)/\Iss (nw H H4) (((((fq_ d k d).take j).filter fun x=>decide (x.2=0)).map (·.1)).map lfs) vs) ⟨an_.new na,[],ag_,am_⟩ (fun j H5 _ h=>SqL.of (h.1 _ _ hb4')) ?_ ?_ eW_ ?_ ?_
   .rintro j y H5 hj ⟨s5,vs,hacc,hi⟩;obtain⟨dd,hdd,hy⟩:=hbi.of_get hj;rw [A9] at hdd;obtain⟨x,hx',rfl⟩:=A4.mp hdd;obtain⟨t,u,rfl,ht,hu⟩:=sc_ hy;have vl:vs.length<=900:=by
     rw [hi.length,A1,A1];refine B6 (List.length_filter_le _ _) ?_;rw [B4];obtain⟨d',rfl⟩:∃d',d=d'+1:=⟨d-1,by lia⟩;have:=(gA d' (by lia)).2;lia
    refine⟨t,_,rfl,SqT.of (s5 _ _ (bg_ _ _ ht)),rfl,_,_,rfl,_,_,rfl,rfl, ?_⟩;refine⟨_,rfl,rfl,_,rfl,qG_ (fun c=> ?_) (fun c=> ?_)⟩
    .refine⟨_,rfl,acc,vs,_,rfl,rfl,hacc,ao_ (by lia),s5.put na,_,ag_, ?_⟩;rw [AZ,hx',Cc];have ef:(Option.toList (some x)).filter (fun x=>decide (x.2=0))=[x]:=by simp [c]
     rw [ef,AG,AG];exact hi.append (ai_ hu am_)
    .refine⟨s5,vs,hacc, ?_⟩;rw [AZ,hx',Cc];have ef:(Option.toList (some x)).filter (fun x=>decide (x.2=0))=[]:=by simp [c]
     rw [ef,Av];exact hi
   .rintro H5 ⟨s5,vs,hacc,hi⟩;rw [blen,AW] at hi;have hi:Iss (nw H H4) ((eu_ d k).map lfs) vs:=hi;have s05:=s4.trans s5;have hv5:Iss H5 ((eu_ d k).map lfs) vs:=(hi.mono bg_).mono s5;have vlen:vs.length=(eu_ d k).length:=by rw [hi.length,A1]
    by_cases hlt:(eu_ d k).length<2
    .refine .inl ⟨acc,vs,rfl,SqL.of hacc,by lia,fun q nq=>kk q _ (s05.put (s05.free nq)) (s05.free nq) ?_⟩;have:sD d k=eu_ d k:=by unfold sD;rw [A7 hlt]
     rw [this];exact cq_ (by rw [cH_ (s05.free nq)];exact ag_) (hi.mono (dh_ (s5.trans (an_.new nq))))
    .obtain⟨p,hp,hps,hpl⟩:=g2 hlt;refine .inr ⟨acc,vs,cD (eu_ d k),p,rfl,SqL.of hacc,by lia,by lia,hps,fun r hr'=> ?_,fun i j bb hb=> ?_,by rw [vlen];exact hp,fun i hi=>by rw [vlen];exact hpl i hi,fun q nq=>kk q _ (s05.put (s05.free nq)) (s05.free nq) ?_⟩
     .obtain⟨i,hi,rfl⟩:=C4.mp hr';obtain⟨dd,hdd,hy⟩:=hv5.of_get (A3 hi);rw [A9] at hdd;obtain⟨w,_,rfl⟩:=A4.mp hdd;obtain⟨a,ys,e1,e2,_⟩:=bT_ hy;exact⟨a,ys,e1,SqL.of e2⟩
     .unfold cD at hb;obtain⟨w1,h1,hb⟩:=AB.mp hb;obtain⟨w2,h2,rfl⟩:=A4.mp hb;obtain⟨x,hx,hx'⟩:=hv5.get (j:=i) (x:=lfs w1) (by rw [A9,h1];rfl);obtain⟨y,hy,hy'⟩:=hv5.get (j:=j) (x:=lfs w2) (by rw [A9,h2];rfl);exact⟨x,y,hx,hy,q1_ hx' hy'⟩
     .have:sD d k=p.toList.map fun i=>(eu_ d k).getD i []:=by
       unfold sD oD;rw [A5 hlt,hp];rfl
      rw [this];exact cq_ (by rw [cH_ (s05.free nq)];exact ag_) ((j7_ hi p.toList hpl).mono (dh_ (s5.trans (an_.new nq))))
   .rintro σ H R R' k' ⟨v1,e1,e2,b,e3,h⟩;exact⟨v1,e1,e2,b,e3,k' _ _ h⟩
   .rintro σ H R R' k' ⟨v1,e1,h⟩;exact⟨v1,e1,k' _ _ h⟩
theorem oh_:FnOk P w K mg base CX0 5 T.f28 T.d28 ["d","drawing"] (tH_ K):=by
 refine T.X28.F.ok nW_ (fun vs H Q E h=> ?_) (fun cdv A outer s H vs Q E hr h=> ?_)
 .obtain⟨_,_,_,rfl,_⟩:=h;rfl
 .obtain⟨n,dv,ps,rfl,n1,n5,hd,hs,kk⟩:=h;refine⟨_,(ad_ (ap_ (md_ qj_ (az_ (nl_ rfl) (by rfl) T.n_min boot_min (aa_ (ah_ (d2_ T) (hr.mono (by decide)) (by rfl) T.X27.m T.X27.F.kp T.X27.B .nil aq_ (aa_ (pv 0) (aa_ (pv 1) ab_))) ab_)) ae_ (aL_ _)))), ?_⟩;refine⟨_,rfl,_,rfl,n,dv,ps,rfl,n1,n5,hd,hs.okl,fun l H1 s1 nl hl=> ?_⟩;refine⟨l,_,rfl,SqL.of hl,by rw [eA_ n ps hs.okl];lia,_,_,rfl,rfl, ?_⟩;show Q (.bl (decide (0<=si_ (bx_ n ps)))) H1;rw [BF (qM_ hs.ends)];exact kk H1 s1
theorem gh_:FnOk P w K mg base CX0 6 T.f35 T.d35 ["d","drawing"] (tP_ K):=by
 refine T.X35.F.ok fY_ (fun vs H Q E h=> ?_) (fun cdv A outer s H vs Q E hr h=> ?_)
 .obtain⟨_,_,_,rfl,_⟩:=h;rfl
 .obtain⟨n,dv,ps,rfl,n1,n5,hd,hs,kk⟩:=h;refine⟨_,(ac_ (aG_ (ah_ (c1_ T) (hr.mono (by decide)) (by rfl) T.X3.m T.X3.F.kp T.X3.B .nil aq_ (aa_ (pv 0) ab_)))
   (ad_ (bl_ (dz_ (cB_ (ah_ (oh_ T) (hr.mono (by decide)) (by rfl) T.X28.m T.X28.F.kp T.X28.B .nil aq_ (aa_ (pv 0) (aa_ (pv 1) ab_))))) (ad_ f5_) aB_))), ?_⟩
  exact⟨_,rfl,n,rfl,by lia,by lia,_,rfl,_,rfl,n,dv,ps,rfl,n1,n5,hd,hs,fun H1 s1=>⟨true,rfl,gF_ (kk H1 s1)⟩⟩
theorem hp_:FnOk P w K mg base CX0 5 T.f36 T.d36 ["d","drawing"] (tV_ K):=by
 refine T.X36.F.ok bU_ (fun vs H Q E h=> ?_) (fun cdv A outer s H vs Q E hr h=> ?_)
 .obtain⟨_,_,_,rfl,_⟩:=h;rfl
 .obtain⟨n,dv,ps,rfl,n1,n5,hd,hs,hlen,kk⟩:=h;refine⟨_,(ac_ (ar_ (i:=2) bU_.nd rfl (by trivial) (au_ ab_))
   (ac_ (aD_ AQ rfl (iP_ (by rfl) T.n_enumerate (ah_ (d2_ T) (hr.mono (by decide)) (by rfl) T.X27.m T.X27.F.kp T.X27.B .nil aq_ (aa_ (pv 0) (aa_ (pv 1) ab_)))) (cn_ rfl (as_ (aj_ (i:=3) bU_.nd rfl (by trivial)) (as_ (aj_ (i:=4) bU_.nd rfl (by trivial)) bd_))) (ad_ (aG_ (cT_ Ac C7 C6 cI_ (pv 2) (aa_ (al_ eQ_ (au_ (aa_ (aM_ (aa_ (al_ aE_ (pv 3) ae_) (aa_ (al_ aE_ (pv 0) ae_) (aa_ ae_ ab_)))) ab_)) (pv 4)) ab_)))))
   (ad_ (ap_ (pv 2))))), ?_⟩
  refine⟨AM _,fun fo H1 nf s1 hfo=> ?_⟩;refine⟨_,rfl,_,rfl,n,dv,ps,rfl,n1,n5,hd.mono s1,hs.okl,fun e H2 s2 ne he=> ?_⟩;have el:=eA_ n ps hs.okl;have efo:e≠fo:=by rintro rfl;rw [hfo] at ne;cases ne
  refine⟨e,rfl,⟨_,SqL.of he⟩,kf_ (xs:=(bx_ n ps).map V.int) (fun i σ H3=>(∃v3 v4,σ=[some (.int n),some dv,some (.ref fo),v3,v4])/\an_ H H3/\H3 e=some (.lst ((bx_ n ps).map V.int))/\∃vs,H3 fo=some (.lst vs)/\Iss H3 (((List.range i).flatMap (k3_ n (bx_ n ps))).map lf) vs)
   ⟨⟨none,none,rfl⟩,s1.trans s2,he,[],s2 _ _ hfo,am_⟩ (fun i σ H3 _ h=>SqL.of h.2.2.1) ?_ ?_⟩
  .rintro i x σ H3 p hx ⟨⟨v3,v4,rfl⟩,s3,he3,vs,hf3,hi3⟩ np;rw [A9] at hx;obtain⟨x,hx',rfl⟩:=A4.mp hx;have hi:i<n:=by have:=(AD.mp hx').1;lia
   have ex:(bx_ n ps).getD i 0=x:=by rw [List.getD,hx'];rfl
   have x0:0<=x:=by rw [<-ex];exact hs.ends i
   have pre:((List.range i).flatMap (k3_ n (bx_ n ps))).length+x.toNat<=20:=by
    have:=f6_ (k3_ n (bx_ n ps)) hi;have e2:(k3_ n (bx_ n ps) i).length=x.toNat:=by unfold k3_;rw [BC,ex]
    unfold e9_ at hlen;lia
   refine⟨p,_,rfl,SqT.of ag_,rfl,_,_,rfl,_,_,rfl,rfl, ?_⟩;have s4:an_ H3 (upd H3 p (.tup [.int i, .int x])):=an_.new np;generalize upd H3 p (.tup [.int i, .int x])=H4 at s4⊢;refine⟨_,rfl, .inl ⟨rfl,_,SqL.of (s4 _ _ hf3)⟩,_,rfl,_,_,rfl,rfl,_,rfl,_,_,rfl,rfl,(by show 3<=sizeLine;decide),fun t H5 nt s5 ht=>⟨(by show 1<=sizeLine;decide),fun l1 H6 n6 s6 h6=> ?_⟩⟩;have htl:Is H6 (lf (1+(i:Int),(n:Int)+1,1)) (.ref t):=mL_ (s6 _ _ (by rw [ht];show some (HO.tup [V.int ((i:Int)+1),_,_])=_;rw [Int.add_comm]));refine⟨_,rfl,lf (1+(i:Int),(n:Int)+1,1),x,cq_ h6 (ai_ htl am_),rfl,by lia,by lia,An (ao_ (by lia)),fun l2 H7 n7 s7 h7=> ?_⟩;obtain⟨_,us,e2,hl2,hi2⟩:=bT_ h7;cases e2;have s47:an_ H3 H7:=((s4.trans s5).trans s6).trans s7;have hf7:=s47 _ _ hf3;have ul:us.length=x.toNat:=by rw [hi2.length,BC]
   have vl:=hi3.length;rw [A1] at vl;refine⟨fo,l2,vs,us,rfl,rfl,hf7,hl2,An (ao_ (by lia)),⟨_,_,rfl⟩,(s3.trans s47).put nf,by rw [ak_ efo];exact s47 _ _ he3,_,ag_, ?_⟩;rw [bk_,AG];refine(pk_ s47 hf3 hi3).append (pk_ (an_.refl H7) hf7 ?_);have:(k3_ n (bx_ n ps) i).map lf=List.replicate x.toNat (lf (1+(i:Int),(n:Int)+1,1)):=by unfold k3_;rw [ex,Cb]
   rw [this];exact hi2
  .rintro σ H3 ⟨⟨v3,v4,rfl⟩,s3,he3,vs,hf3,hi3⟩;rw [A1,el] at hi3;exact⟨_,rfl,kk fo H3 s3 nf (cq_ hf3 hi3)⟩
theorem eS_:FnOk P w K mg base CX0 1 T.f4 T.d4 ["number","chosen"] (t1_ K):=by
 refine T.X4.F.ok dv_ (fun vs H Q E h=> ?_) (fun cdv A outer s H vs Q E hr h=> ?_)
 .obtain⟨_,_,rfl,_⟩:=h;rfl
 .obtain⟨n,k,rfl,h1,h2,kk⟩:=h;refine⟨_,(ac_ (bl_ (iL_ (aF_ ml_ (pv 1) ae_ (aL_ _)) (fy_ (aF_ oc_ (pv 1) (pv 0) (aL_ _)))).pt (ad_ (ap_ ae_)) aB_)
   (ac_ (ar_ (i:=2) dv_.nd rfl (by trivial) ae_)
   (ac_ (aD_ AQ rfl (cC_ (by rfl) T.n_range (aa_ (pv 1) ab_)) (aj_ (i:=3) dv_.nd rfl (by trivial)) (ad_ (ar_ (i:=2) dv_.nd rfl (by trivial) (al_ dZ_ (al_ ba_ (pv 2) (al_ aH_ (pv 0) (pv 3))) (al_ aE_ (pv 3) ae_)))))
   (ad_ (ap_ (pv 2)))))), ?_⟩
  refine⟨_,rfl,_,_,rfl,rfl,_,rfl,hP_ (fun h=>absurd h (by lia)) (fun _=> ?_)⟩;refine⟨_,rfl,_,rfl,_,_,rfl,rfl,_,rfl,hP_ (fun h=>absurd h (by lia)) (fun _=> ?_)⟩;refine⟨_,rfl,(k:Int),rfl,by lia,by lia,aU_ (lo:=0) (n:=(k:Int).toNat) (fun i σ H2=>(∃v3,σ=[some (.int n),some (.int k),some (.int (chF n i)),v3])/\H2=H) ⟨⟨none,rfl⟩,rfl⟩ ?_ ?_⟩
  .rintro i σ H2 hi ⟨⟨v3,rfl⟩,rfl⟩;refine⟨_,rfl,_,rfl,_,rfl,_,_,rfl,rfl,_,_,rfl,rfl, .inr ⟨by lia,by lia⟩,_,rfl,_,_,rfl,rfl,_,_,rfl,rfl,⟨by lia,by lia⟩,⟨some (.int (0+(i:Int))), ?_⟩,rfl⟩;rw [show chF n (i+1)=chF n i*(n-(0+(i:Int)))/((0+(i:Int))+1) by rw [Int.zero_add];rfl];rfl
  .rintro σ H2 ⟨⟨v3,rfl⟩,rfl⟩;rw [Ap];exact⟨_,rfl,kk⟩
theorem bw_:FnOk P w K mg base CX0 1 T.f8 T.d8 ["numbers","place","more"] (uT_ K):=by
 refine T.X8.F.ok g8_ (fun vs H Q E h=> ?_) (fun cdv A outer s H vs Q E hr h=> ?_)
 .obtain⟨_,_,_,_,rfl,_⟩:=h;rfl
 .obtain⟨v,t,p,m,rfl,hv,hp,hl,kk⟩:=h;refine⟨_,(ad_ (ap_ (al_ iT_ (al_ iT_ (f9_ lH_ (pv 0) iO_ (iN_ (pv 1))) (aM_ (aa_ (al_ aE_ (bp_ aQ_ (pv 0) (pv 1) (fun _ _=>rfl)) (pv 2)) ab_))) (f9_ lH_ (pv 0) (iN_ (al_ aE_ (pv 1) ae_)) iO_)))), ?_⟩;have hlen:∀vs:List V,vs.length=(t.map D.i).length->vs.length=t.length:=fun vs e=>by rw [e,A1]
  refine⟨_,rfl,_,rfl,(p:Int),rfl,t.map .i,(t.take p).map .i,hv,rt_,fun vs e h=> ?_,fun u1 H1 s1 hu1=> ?_⟩
  .have e:=hlen vs e;rw [HT.sIx_nat] at h;lia
  refine⟨_,rfl,_,rfl,t.map .i,(p:Int), .i (t.getD p 0),hv.mono s1,rfl, ?_,fun u hu=> ?_⟩
  .refine tf_ (j:=p) rfl ?_;rw [A9,A3 hp];simp [List.getD,hp]
  rw [do_ hu];refine⟨_,rfl,_,_,rfl,rfl,(by show 1<=sizeLine;decide),fun q2 H2 n2 s2 h2=> ?_⟩;have hu2:Is H2 (.t [.i (t.getD p 0+m)]) (.ref q2):=gX_ h2 (ai_ e4_ am_);refine⟨_,_,hu1.mono s2,hu2,An (ao_ (by rw [A1,B4];show _+1<=1000;lia)),fun u3 H3 s3 hu3=> ?_⟩;refine⟨_,rfl,_,rfl,_,_,rfl,rfl,(p:Int)+1,rfl,t.map .i,(t.drop (p+1)).map .i,((hv.mono s1).mono s2).mono s3, ?_,fun vs e h=> ?_,fun u4 H4 s4 hu4=> ?_⟩
  .rw [show((p:Int)+1)=((p+1:Nat):Int) by lia];exact pL_ (by lia)
  .have e:=hlen vs e;rw [show((p:Int)+1)=((p+1:Nat):Int) by lia,HT.sIx_nat] at h;lia
  refine⟨_,_,hu3.mono s4,hu4,An (ao_ (by rw [AC,A1,A1,B4,List.length_drop];show _+1+_<=1000;lia)),fun u5 H5 s5 hu5=> ?_⟩;refine kk u5 H5 ((((s1.trans s2).trans s3).trans s4).trans s5) ?_;have e:(t.take p).map D.i++[D.i (t.getD p 0+m)]++(t.drop (p+1)).map D.i=(wmF t p m).map D.i:=by
   unfold wmF;rw [<-p0_ hp,AG,AG];rfl
  rw [e] at hu5;exact hu5
theorem c0_:∀n:Nat,FnOk P w K mg base CX0 (n+2) T.f37 T.d37 ["numbers","first","last","alike"] (uX_ n K)
 |0=>⟨fun vs H Q E h=>(by obtain⟨_,_,_,_,_,_,_,h,_⟩:=h;exact absurd h (Nat.not_lt_zero _)),fun A outer s H args us vs Q E _ _ _ _ h=>(by obtain⟨_,_,_,_,_,_,_,h,_⟩:=h;exact absurd h (Nat.not_lt_zero _))⟩
 |n+1=>by
  have ih:=c0_ n;refine T.X37.F.ok aY_ (fun vs H Q E h=> ?_) (fun cdv A outer s H vs Q E hr h=> ?_)
  .obtain⟨_,_,_,_,_,rfl,_⟩:=h;rfl
  .obtain⟨v,t,p,g,a,rfl,hv,hg,hn,hp,⟨kl,kn,ks⟩,kk⟩:=h;refine⟨_,(ac_ (bl_ (aF_ iS_ (pv 1) (pv 2) (aL_ _)) (ad_ (ap_ (au_ (aa_ (aM_ (aa_ (ah_ (bw_ T) (hr.mono (by lia)) (by rfl) T.X8.m T.X8.F.kp T.X8.B .nil aq_ (aa_ (pv 0) (aa_ (pv 1) (aa_ (pv 3) ab_)))) (aa_ (ah_ (eS_ T) (hr.mono (by lia)) (by rfl) T.X4.m T.X4.F.kp T.X4.B .nil aq_ (aa_ (al_ aE_ (bp_ aQ_ (pv 0) (pv 1) (fun _ _=>rfl)) (pv 3)) (aa_ (pv 3) ab_))) ab_))) ab_)))) aB_)
   (ac_ (ar_ (i:=4) aY_.nd rfl (by trivial) (au_ ab_))
   (ac_ (aD_ AQ rfl (cC_ (by rfl) T.n_range (aa_ (al_ aE_ (pv 3) ae_) ab_)) (aj_ (i:=5) aY_.nd rfl (by trivial)) (ac_ (ar_ (i:=6) aY_.nd rfl (by trivial) (ah_ (eS_ T) (hr.mono (by lia)) (by rfl) T.X4.m T.X4.F.kp T.X4.B .nil aq_ (aa_ (al_ aE_ (bp_ aQ_ (pv 0) (pv 1) (fun _ _=>rfl)) (pv 5)) (aa_ (pv 5) ab_))))
   (ad_ (aD_ AQ rfl (aP_ (ah_ ih hr (by rfl) T.X37.m T.X37.F.kp T.X37.B .nil aq_ (aa_ (ah_ (bw_ T) (hr.mono (by lia)) (by rfl) T.X8.m T.X8.F.kp T.X8.B .nil aq_ (aa_ (pv 0) (aa_ (pv 1) (aa_ (pv 5) ab_)))) (aa_ (al_ aE_ (pv 1) ae_) (aa_ (pv 2) (aa_ (al_ aH_ (pv 3) (pv 5)) ab_)))))) (cn_ rfl (as_ (aj_ (i:=7) aY_.nd rfl (by trivial)) (as_ (aj_ (i:=8) aY_.nd rfl (by trivial)) bd_))) (ad_ (aG_ (cT_ Ac B8 B7 a1_ (pv 4) (aa_ (aM_ (aa_ (pv 7) (aa_ (al_ ba_ (pv 6) (pv 8)) ab_))) ab_))))))))
   (ad_ (ap_ (pv 4)))))), ?_⟩
   have kp:=(fI_ kn).2 p;have kp0:=kn p;have at_p:∀{H':Hp},an_ H H'->∀{v':V},Is H' (tI t) v'->atI (t.map D.i) (p:Int)=some (.i (t.getD p 0)):=fun _ _ _=>by
    refine tf_ (j:=p) rfl ?_;rw [A9,A3 (by lia)];simp [List.getD,show p<t.length by lia]
   refine⟨_,rfl,_,rfl,rfl,_,rfl,qG_ (fun e=> ?_) (fun e=> ?_)⟩
   .have hg0:g=0:=by lia
    subst hg0;refine⟨_,rfl,_,rfl,_,rfl,v,t,p,a,rfl,hv,by lia,kl,fun u1 H1 s1 hu1=> ?_⟩;refine⟨_,rfl,_,rfl,t.map .i,(p:Int),_,hv.mono s1,rfl,at_p s1 (hv.mono s1),fun u hu=> ?_⟩;rw [do_ hu];refine⟨_,rfl,_,_,rfl,rfl,_,rfl,t.getD p 0+a,a,rfl,by lia,by lia, ?_⟩;refine⟨(by show 2<=sizeLine;decide),fun q2 H2 n2 s2 h2=>⟨(by show 1<=sizeLine;decide),fun q3 H3 n3 s3 h3=> ?_⟩⟩;have s02:=s1.trans s2;refine kk q3 H3 (s02.trans s3) (s02.free n3) (cq_ h3 (ai_ ((qH_ (x:=(wmF t p (a:Int),chF (t.getD p 0+(a:Int)) a)) h2 (hu1.mono s2)).mono s3) am_))
   .obtain⟨g,rfl⟩:∃g',g=g'+1:=⟨g-1,by lia⟩;refine⟨AM _,fun fo H1 nf s1 hfo=> ?_⟩;have big:=n9_ (g:=g+1) (t:=t) (p:=p) (a:=a) (by lia) (by have:=(fI_ kn).1;lia);have a15:(a:Int)<=15:=by have:=(fI_ kn).1;lia
    refine⟨_,rfl,_,_,rfl,rfl,_,rfl,by lia,by lia, ?_⟩;rw [show((a:Int)+1).toNat=a+1 by lia];refine aU_ (lo:=0) (n:=a+1) (fun h σ H2=>(∃v5 v6 v7 v8,σ=[some v,some (.int p),some (.int ((p:Int)+((g+1:Nat):Int))),some (.int a),some (.ref fo),v5,v6,v7,v8])/\an_ H H2/\∃vs,H2 fo=some (.lst vs)/\Iss H2 (((List.range h).flatMap fun h:Nat=>(pbF g (wmF t p (h:Int)) (p+1) (a-h)).map fun x=>(x.1,chF (t.getD p 0+(h:Int)) h*x.2)).map prD) vs) ⟨⟨none,none,none,none,rfl⟩,s1,[],hfo,am_⟩ ?_ ?_
    .rintro h σ H2 hh ⟨⟨v5,v6,v7,v8,rfl⟩,s2,vs2,hf2,hi2⟩;rw [Int.zero_add];have hb:∀j,j<=(pbF g (wmF t p (h:Int)) (p+1) (a-h)).length->((List.range h).flatMap fun h:Nat=>(pbF g (wmF t p (h:Int)) (p+1) (a-h)).map fun x=>(x.1,chF (t.getD p 0+(h:Int)) h*x.2)).length+j<=1048576:=fun j hj=>by
      have:=f6_ (fun h:Nat=>(pbF g (wmF t p (h:Int)) (p+1) (a-h)).map fun x=>(x.1,chF (t.getD p 0+(h:Int)) h*x.2)) hh;rw [A1] at this;unfold pbF at big;lia
     rw [bk_];generalize ((List.range h).flatMap fun h:Nat=>(pbF g (wmF t p (h:Int)) (p+1) (a-h)).map fun x=>(x.1,chF (t.getD p 0+(h:Int)) h*x.2))=pr at hi2 hb⊢;obtain⟨c1,c2⟩:=sQ_ (n:=t.getD p 0+(h:Int)) (k:=h) (by lia) (by lia);refine⟨_,rfl,_,rfl,t.map .i,(p:Int),_,hv.mono s2,rfl,at_p s2 (hv.mono s2),fun u hu=> ?_⟩;rw [do_ hu];refine⟨_,rfl,_,_,rfl,rfl,_,rfl,t.getD p 0+(h:Int),h,rfl,by lia,by lia, ?_⟩;refine⟨_,rfl,_,rfl,_,rfl,v,t,p,(h:Int),rfl,hv.mono s2,by lia,kl,fun u3 H3 s3 hu3=> ?_⟩;refine⟨_,rfl,_,_,rfl,rfl,_,rfl,_,rfl,_,rfl,_,_,rfl,rfl,u3,wmF t p (h:Int),p+1,g,a-h, ?_,hu3,by lia,by lia,by rw [cV_];lia,⟨by rw [cV_];exact kl,fun i=> ?_, ?_⟩,fun rl H4 s4 nrl hrl=> ?_⟩
     .have e1:((p:Int)+1)=((p+1:Nat):Int):=by lia
      have e2:(p:Int)+((g+1:Nat):Int)=((p+1:Nat):Int)+(g:Int):=by lia
      have e3:(a:Int)-(h:Int)=((a-h:Nat):Int):=by lia
      show [u3,V.int ((p:Int)+1),V.int ((p:Int)+((g+1:Nat):Int)),V.int ((a:Int)-(h:Int))]=_;rw [e1,e2,e3]
     .rw [nJ_ (by lia)];have:=kn i;split<;>lia
     .rw [fT_ (by lia)];lia
     obtain⟨_,rvs,e,hrl4,hri⟩:=bT_ hrl;cases e;generalize pbF g (wmF t p (h:Int)) (p+1) (a-h)=O at hri hb⊢;have rlen:rvs.length=O.length:=by rw [hri.length,A1]
     have s24:=s3.trans s4;have hf4:=s24 _ _ hf2;have rlfo:rl≠fo:=by rintro rfl;rw [s3 _ _ hf2] at nrl;cases nrl
     refine⟨rl,rfl,⟨_,SqL.of hrl4⟩,aO_ (xs:=rvs) (fun j σ H5=>(∃v7 v8,σ=[some v,some (.int p),some (.int ((p:Int)+((g+1:Nat):Int))),some (.int a),some (.ref fo),some (.int h),some (.int (chF (t.getD p 0+(h:Int)) h)),v7,v8])/\an_ H H5/\H5 rl=some (.lst rvs)/\by_ H4 H5/\∃vs,H5 fo=some (.lst vs)/\Iss H5 ((pr++(O.take j).map fun x=>(x.1,chF (t.getD p 0+(h:Int)) h*x.2)).map prD) vs) ⟨⟨_,_,rfl⟩,s2.trans s24,hrl4,by_.of_same (an_.refl H4),vs2,hf4,by simpa using hi2.mono s24⟩ (fun j σ H5 _ h=>SqL.of h.2.2.1) ?_ ?_⟩
     .rintro j y σ H5 hj ⟨⟨v7,v8,rfl⟩,s5,hrl5,t5,vs5,hf5,hi5⟩;obtain⟨dd,hdd,hy⟩:=hri.of_get hj;rw [A9] at hdd;obtain⟨x,hx',rfl⟩:=A4.mp hdd;have hjl:j<O.length:=(AD.mp hx').1;obtain⟨q,u6,rfl,hq,hu6⟩:=qm_ (jG_ t5 hy);have vl:=hi5.length;rw [A1,AC,A1,B4] at vl;have hbj:=hb (j+1) (by lia);refine⟨q,_,rfl,SqT.of hq,rfl,_,_,rfl,_,_,rfl,rfl, ?_⟩;refine⟨_,rfl, .inl ⟨rfl,_,SqL.of hf5⟩,_,rfl,_,rfl,_,rfl,_,_,rfl,rfl, .inl ⟨by lia,by lia⟩,(by show 2<=sizeLine;decide),fun q6 H6 n6 s6 h6=> ?_⟩;refine⟨fo,vs5,_,rfl,rfl,s6 _ _ hf5,op_ (by lia),⟨_,_,rfl⟩,(s5.trans s6).put nf,by rw [ak_ rlfo];exact s6 _ _ hrl5,(t5.trans (by_.of_same s6)).trans (by_.upd (s6 _ _ hf5)),_,ag_, ?_⟩;have ez:(pr++(O.take (j+1)).map fun x=>(x.1,chF (t.getD p 0+(h:Int)) h*x.2))=(pr++(O.take j).map fun x=>(x.1,chF (t.getD p 0+(h:Int)) h*x.2))++[(x.1,chF (t.getD p 0+(h:Int)) h*x.2)]:=by
       rw [AZ,hx',Option.toList_some,AG,BA];rfl
      rw [ez,AG];refine(l5_ ((by_.of_same s6).trans (by_.upd (s6 _ _ hf5))) hi5).append ?_;exact ai_ (jG_ (by_.upd (s6 _ _ hf5)) (qH_ (x:=(x.1,chF (t.getD p 0+(h:Int)) h*x.2)) h6 (hu6.mono s6))) am_
     .rintro σ H5 ⟨⟨v7,v8,rfl⟩,s5,hrl5,t5,vs5,hf5,hi5⟩;rw [rlen,AW] at hi5;exact⟨⟨_,_,_,_,rfl⟩,s5,vs5,hf5,hi5⟩
    .rintro σ H2 ⟨⟨v5,v6,v7,v8,rfl⟩,s2,vs2,hf2,hi2⟩;exact⟨_,rfl,kk fo H2 s2 nf (cq_ hf2 hi2)⟩
theorem dD_:FnOk P w K mg base CX0 9 T.f38 T.d38 ["d","marks"] (tT_ K):=by
 refine T.X38.F.ok av_ (fun vs H Q E h=> ?_) (fun cdv A outer s H vs Q E hr h=> ?_)
 .obtain⟨_,_,_,rfl,_⟩:=h;rfl
 .obtain⟨d,v,mk,rfl,d1,d5,hv,⟨mok,mlen⟩,kk⟩:=h;refine⟨_,(ac_ (ar_ (i:=2) av_.nd rfl (by trivial) (n6_ (en_ hr) (hk_ c4_ (by rfl) T.n_tuple boot_tuple (aa_ (al_ eQ_ (au_ (aa_ ae_ ab_)) (pv 0)) ab_)) ae_))
   (ac_ (aD_ AQ rfl (aP_ (qb_ (sz_ hr) hr.hd (by rfl) T.n_sorted (by rfl) T.n_set (aa_ (pv 1) ab_))) (aj_ (i:=3) av_.nd rfl (by trivial)) (ac_ (ar_ (i:=4) av_.nd rfl (by trivial) n5_)
   (ac_ (aD_ AQ rfl (p9_ (pv 2)) (aj_ (i:=5) av_.nd rfl (by trivial)) (ad_ (aD_ AQ rfl (aP_ (ah_ (c0_ T 6) (hr.mono (by decide)) (by rfl) T.X37.m T.X37.F.kp T.X37.B .nil aq_ (aa_ (pv 5) (aa_ (al_ aH_ (bp_ aQ_ (pv 3) ae_ (fun _ _=>rfl)) ae_) (aa_ (al_ aH_ (bp_ aQ_ (pv 3) ae_ (fun _ _=>rfl)) ae_) (aa_ (cT_ Ac PySem.F.slot_list_count PySem.F.type_list_count (mq_ hr) (pv 1) (aa_ (pv 3) ab_)) ab_)))))) (cn_ rfl (as_ (aj_ (i:=6) av_.nd rfl (by trivial)) (as_ (aj_ (i:=7) av_.nd rfl (by trivial)) bd_))) (ad_ (iM_ (en_ hr) (pv 4) (pv 6) (al_ aE_ (n8_ (en_ hr) (pv 4) (pv 6) ae_ ⟨rfl,rfl,rfl,rfl⟩) (al_ ba_ (df_ (en_ hr) (pv 2) (pv 5) (fun _ _=>rfl)) (pv 7))) rfl)))))
   (ad_ (ar_ (i:=2) av_.nd rfl (by trivial) (pv 4))))))
   (ad_ (ap_ (qa_ rfl (by rfl) T.n_sum (pv 2)))))), ?_⟩
  obtain⟨wa,wvs,rfl,hwa,hwi⟩:=bT_ hv;have wlen:wvs.length=mk.length:=by rw [hwi.length,A1]
  refine fun kd nkd=> ?_;have s0:an_ H (upd H kd (.dT [])):=an_.new nkd;have hkd0:upd H kd (.dT []) kd=some (.dT []):=ag_;generalize upd H kd (.dT [])=H0 at s0 hkd0⊢;refine⟨(by show 1<=sizeLine;decide),fun l1 H1 n1 s1 h1=> ?_⟩;refine⟨_,rfl, .i 0,d,cq_ h1 (ai_ e4_ am_),rfl,by lia,by lia,An (ao_ (by lia)),fun l2 H2 n2 s2 h2=> ?_⟩;refine⟨.ref l2,_,rfl,h2,fun t3 H3 n3 s3 h3=> ?_⟩;have s03:=(s1.trans s2).trans s3;have hkd3:=s03 _ _ hkd0;rw [Ap] at h3;have ht3:H3 t3=some (.tup ((e0_ (List.replicate d 0)).map kV)):=by
   rw [<-Cb] at h3;obtain⟨a,e,ha⟩:=bS_ (xs:=List.replicate d 0) h3;cases e;rw [gC_];exact ha
  refine⟨hkd3,e0_ (List.replicate d 0),t3,rfl,ht3, ?_⟩;have e0:dy_ ([]:List (List Key×V)) (e0_ (List.replicate d 0)) (.int 1)=dr_ [(List.replicate d 0,1)]:=ju_ [] _ _;rw [e0];have sH:an_ H (upd H3 kd (.dT (dr_ [(List.replicate d 0,1)]))):=(s0.trans s03).put nkd;have hkd:upd H3 kd (.dT (dr_ [(List.replicate d 0,1)])) kd=some (.dT (dr_ [(List.replicate d 0,1)])):=ag_;generalize upd H3 kd (.dT (dr_ [(List.replicate d 0,1)]))=H4 at sH hkd⊢;clear h1 h2 h3 ht3 hkd3 s03 s1 s2 s3 n1 n2 n3 hkd0 s0 e0 H0 H1 H2 H3;have tab0:TabOk d 0 [(List.replicate d 0,(1:Int))]:=by
   refine⟨by simp,fun x hx=> ?_⟩;rw [AS.mp hx];refine⟨by simp,by simp,fun i=> ?_⟩;rw [A8,List.getElem?_replicate];split<;>simp
  refine⟨_,rfl, .ref wa,mk.map gW_,3,rfl,by rw [<-jU_];exact hv.mono sH,by decide,nX_,by rw [A1];lia,fun yss l0 H5 nd mem so nl0 s5 hq=> ?_⟩;have ey:=pV_ nd mem so;subst ey;rw [<-jU_] at hq;clear nd mem so;have hhm:eq_ [(List.replicate d 0,(1:Int))] (TF (fun m=>mk.count m) (kH_ mk))=hmF d mk:=by
   simp [eq_,hmF]
  have hS:∀m∈kH_ mk,m∈mk:=fun m hm=>fU_.mp hm;have hSn:=pU_ mk;generalize hcn:(fun m=>mk.count m)=cnt at hhm;generalize hmF d mk=tot at hhm kk;generalize kH_ mk=S at hq hhm hS hSn;obtain⟨_,lvs,e,hl0,hli⟩:=bT_ hq;cases e;have llen:lvs.length=S.length:=by rw [hli.length,A1]
  refine⟨l0,rfl,⟨_,SqL.of hl0⟩,aO_ (xs:=lvs) (fun i σ H6=>(∃kd D n,(∃v3 v4 v5 v6 v7,σ=[some (.int d),some (.ref wa),some (.ref kd),v3,v4,v5,v6,v7])/\H6 kd=some (.dT (dr_ D))/\TabOk d n D/\n=((S.take i).map cnt).sum/\eq_ D (TF cnt (S.drop i))=tot/\H kd=none)/\an_ H H6/\H6 l0=some (.lst lvs)/\by_ H5 H6) ⟨⟨kd,_,0,⟨none,none,none,none,none,rfl⟩,s5 _ _ hkd,tab0,rfl,hhm,nkd⟩,sH.trans s5,hl0,by_.of_same (an_.refl H5)⟩ (fun i σ H6 _ h=>SqL.of h.2.2.1) ?_ ?_⟩
  .rintro i y σ H6 hi ⟨⟨kd,D,n,⟨v3,v4,v5,v6,v7,rfl⟩,hkd6,tab,hn,hsum,nkd⟩,s6,hl6,t6⟩;obtain⟨dd,hdd,hy⟩:=hli.of_get hi;rw [A9] at hdd;obtain⟨x,hx',rfl⟩:=A4.mp hdd;have hil:i<S.length:=(AD.mp hx').1;have exi:S[i]=x:=(AD.mp hx').2;obtain⟨ya,rfl,hya⟩:=ht_ hy;obtain⟨o1,o2,o3⟩:=mok x (hS x (AU hx'));have hn':((S.take (i+1)).map cnt).sum=n+cnt x:=by
    rw [AZ,hx',AG,C0,<-hn];simp
   have hn15:n+cnt x<=15:=by
    have:=h1_ mk (S.take (i+1)) (hSn.sublist (List.take_sublist _ _));rw [hcn,hn'] at this;lia
   rw [Bg hil,exi,pN_] at hsum;obtain⟨p,hp⟩:∃p:Nat,x.1-1=(p:Int):=⟨(x.1-1).toNat,by lia⟩;obtain⟨g,hg⟩:∃g:Nat,x.2.1-x.1-1=(g:Int):=⟨(x.2.1-x.1-1).toNat,by lia⟩;rw [hp,hg,Ap,Ap] at hsum;have rok:nv_ p d n (n+cnt x) (spR g (cnt x)):=fun r hr=>by
    obtain⟨e1,e2⟩:=iA_ hr;exact⟨by lia,by lia⟩
   obtain⟨tab',sum'⟩:=lE_ rok (TF cnt (S.drop (i+1))) tab.key (acc:=[]) ⟨by simp,fun x hx=>nomatch hx⟩;refine fun f nf=> ?_;have s7:an_ H6 (upd H6 f (.dT [])):=an_.new nf;have hf7:upd H6 f (.dT []) f=some (.dT (dr_ [])):=ag_;have nfH:H f=none:=s6.free nf;have fkd:f≠kd:=by rintro rfl;rw [hkd6] at nf;cases nf
   generalize upd H6 f (.dT [])=H7 at s7 hf7⊢;refine⟨_,rfl,kd,dr_ D,rfl, .inl (s7 _ _ hkd6),fun o H8 hk8 same8=> ?_⟩;have l8:LTS H7 H8:=LTS.rd (.inl (s7 _ _ hkd6)) same8;have s8:an_ H H8:=fun b u e=>by rw [same8 b (by rintro rfl;rw [nkd] at e;cases e)];exact s7 _ _ (s6 _ _ e)
   refine oE_ (fun j σ H9=>(∃v5 v6 v7,σ=[some (.int d),some (.ref wa),some (.ref kd),some (.ref ya),some (.ref f),v5,v6,v7])/\an_ H H9/\H9 kd=some (.frz o (.dT (dr_ D)))/\H9 l0=some (.lst lvs)/\by_ H5 H9/\H9 f=some (.dT (dr_ (stP p (spR g (cnt x)) (D.take j) [])))) ⟨⟨_,_,_,rfl⟩,s8,hk8,l8.1 _ _ (s7 _ _ hl6),(t6.trans (by_.of_same s7)).trans l8.2,by rw [same8 f fkd];exact hf7⟩ (fun j σ H9 _ h=>h.2.2.1) ?_ ?_
   .rintro j k c b σ H9 hj ⟨⟨v5,v6,v7,rfl⟩,s9,hk9,hl9,t9,hf9⟩ hb;unfold dr_ at hj;rw [A9] at hj;obtain⟨⟨t,cv⟩,hD,ekc⟩:=A4.mp hj;simp only [BM] at ekc;obtain⟨rfl,rfl⟩:=ekc;rw [gC_] at hb;have hDm:(t,cv)∈D:=AU hD;obtain⟨k1,k2,k3⟩:t.length=d/\t.sum=(n:Int)/\∀i:Nat,0<=t.getD i 0:=tab.key _ hDm;have hx9:Is H9 (lf x) (.ref ya):=mL_ (t9 _ _ hya);have hw9:=hwi.mono s9;rw [je_ hD];have tabac:=(lE_ rok (fun _=>0) (xs:=D.take j) (fun y hy=>tab.key y (List.mem_of_mem_take hy)) (acc:=[]) ⟨by simp,fun x hx=>nomatch hx⟩).1;generalize stP p (spR g (cnt x)) (D.take j) []=ac at hf9 tabac⊢;refine⟨_,rfl,_,rfl,_,0,_,hx9,rfl,rfl,fun u1 hu1=> ?_⟩;rw [do_ hu1];refine⟨_,_,rfl,rfl,_,rfl,_,1,_,hx9,rfl,rfl,fun u2 hu2=> ?_⟩;rw [do_ hu2];refine⟨_,_,rfl,rfl,_,rfl, .inl ⟨rfl,_,SqL.of (s9 _ _ hwa)⟩,_,rfl,wa,wvs, .ref ya,1,_,rfl,rfl,SqL.of (s9 _ _ hwa),pK_ hw9 hx9, ?_⟩;rw [wlen,oL_];refine⟨.ref b,t,p,g,cnt x, ?_,e3_ hb,by lia,by decide,by lia,⟨by lia,k3,by lia⟩,fun rl H10 s10 nrl hrl=> ?_⟩
    .show [V.ref b,V.int (x.1-1),V.int (x.2.1-2),V.int (mk.count x:Nat)]=_;rw [hp,show x.2.1-2=(p:Int)+(g:Int) by lia,<-hcn]
    rw [r5_ (by lia),BX] at hrl;obtain⟨_,rvs,e,hrl10,hri⟩:=bT_ hrl;cases e;have hrs:∀r∈spR g (cnt x),r.length=g+1/\r.sum=cnt x:=fun r hr=>iA_ hr;generalize spR g (cnt x)=rs at hri rok hrs⊢;have rlen:rvs.length=rs.length:=by rw [hri.length,A1]
    have hk10:=s10 _ _ hk9;have hf10:=s10 _ _ hf9;have rlf:rl≠f:=by rintro rfl;rw [hf9] at nrl;cases nrl
    have l0f:l0≠f:=by rintro rfl;rw [hl9] at hf9;cases hf9
    refine⟨rl,rfl,⟨_,SqL.of hrl10⟩,aO_ (xs:=rvs) (fun m σ H11=>(∃v6 v7,σ=[some (.int d),some (.ref wa),some (.ref kd),some (.ref ya),some (.ref f),some (.ref b),v6,v7])/\an_ H H11/\H11 kd=some (.frz o (.dT (dr_ D)))/\H11 l0=some (.lst lvs)/\by_ H10 H11/\H11 rl=some (.lst rvs)/\H11 f=some (.dT (dr_ (inP t cv p (rs.take m) ac)))) ⟨⟨_,_,rfl⟩,s9.trans s10,hk10,s10 _ _ hl9,by_.of_same (an_.refl H10),hrl10,hf10⟩ (fun m σ H11 _ h=>SqL.of h.2.2.2.2.2.1) ?_ ?_⟩
    .rintro m z σ H11 hm ⟨⟨v6,v7,rfl⟩,s11,hk11,hl11,t11,hrl11,hf11⟩;obtain⟨dd,hdd,hz⟩:=hri.of_get hm;rw [A9] at hdd;obtain⟨r,hr',rfl⟩:=A4.mp hdd;obtain⟨q,u6,rfl,hq,hu6⟩:=qm_ (jG_ t11 hz);obtain⟨ua,rfl,hua⟩:=bS_ hu6;obtain⟨r1,r2⟩:=hrs r (AU hr');have hua':H11 ua=some (.tup ((e0_ (ig_ t p r)).map kV)):=by rw [gC_];exact hua
     have hb11:H11 b=some (.tup ((e0_ t).map kV)):=by rw [gC_];exact t11 _ _ (s10 _ _ hb)
     have tabm:=(mP_ (v:=cv) ⟨k1,k2,k3⟩ (fun _=>0) (rs:=rs.take m) (fun r hr=>rok r (List.mem_of_mem_take hr)) tabac).1;refine⟨q,_,rfl,SqT.of hq,rfl,_,_,rfl,_,_,rfl,rfl, ?_⟩;refine⟨_,rfl,f,rfl, .inr ⟨_, .inl hf11⟩,_,rfl,_,nF_.t hf11 hua', ?_⟩;rw [nO_];refine⟨_,rfl,_,rfl,kd, .int cv,rfl, .inr ⟨dr_ D,e0_ t,b, .inr ⟨o,hk11⟩,rfl,hb11,(pO_ tab.nd hDm).symm⟩,_,rfl,_,_,rfl,rfl, .inr (kN_ k3 (by lia) (by lia)),_,_,rfl,rfl,_,rfl,_,rfl,f,_,rfl,oS_.t hf11 hua' ?_, ?_⟩
     .rw [jv_];exact op_ (tabm.size d5 hn15)
     .rw [show inP t cv p (rs.take (m+1)) ac=ri_ (inP t cv p (rs.take m) ac) (ig_ t p r) (cv*gV_ t p r) from hV_ _ _ rs m r hr'];rw [ju_];exact⟨⟨_,_,rfl⟩,s11.put nfH,by rw [ak_ fkd.symm];exact hk11,by rw [ak_ l0f];exact hl11,t11.trans (nN_ hf11),by rw [ak_ rlf];exact hrl11,ag_⟩
    .rintro σ H11 ⟨⟨v6,v7,rfl⟩,s11,hk11,hl11,t11,hrl11,hf11⟩;rw [rlen,AW] at hf11;exact⟨⟨_,_,_,rfl⟩,s11,hk11,hl11,(t9.trans (by_.of_same s10)).trans t11,hf11⟩
   .rintro σ H9 ⟨⟨v5,v6,v7,rfl⟩,s9,hk9,hl9,t9,hf9⟩;rw [jv_,AW] at hf9;refine⟨_,rfl,⟨f,_,n+cnt x,⟨_,_,_,_,_,rfl⟩,hf9,tab',hn'.symm, ?_,nfH⟩,s9,hl9,t9⟩;rw [sum',hsum];simp [eq_]
  .rintro σ H6 ⟨⟨kd,D,n,⟨v3,v4,v5,v6,v7,rfl⟩,hkd6,tab,hn,hsum,nkd⟩,s6,hl6,t6⟩;refine⟨_,rfl,kd,dr_ D,D.map (·.2),rfl, .inl hkd6,lB_ D, ?_⟩;rw [llen,List.drop_length] at hsum;have:(D.map (·.2)).sum=tot:=by rw [<-nP_,<-hsum];rfl
   rw [this];exact kk H6 s6
theorem iW_:FnOk P w K mg base CX0 10 T.f39 T.d39 ["d","drawing"] (uY_ K):=by
 refine T.X39.F.ok iE_ (fun vs H Q E h=> ?_) (fun cdv A outer s H vs Q E hr h=> ?_)
 .obtain⟨_,_,_,rfl,_⟩:=h;rfl
 .obtain⟨d,dv,ps,rfl,d1,d5,hd,hs,kk⟩:=h;refine⟨_,(ac_ (aG_ (ah_ (gh_ T) (hr.mono (by decide)) (by rfl) T.X35.m T.X35.F.kp T.X35.B .nil aq_ (aa_ (pv 0) (aa_ (pv 1) ab_))))
   (ad_ (ap_ (ah_ (dD_ T) (hr.mono (by decide)) (by rfl) T.X38.m T.X38.F.kp T.X38.B .nil aq_ (aa_ (pv 0) (aa_ (al_ gc_ (pv 1) (ah_ (hp_ T) (hr.mono (by decide)) (by rfl) T.X36.m T.X36.F.kp T.X36.B .nil aq_ (aa_ (pv 0) (aa_ (pv 1) ab_)))) ab_)))))), ?_⟩
  obtain⟨pl,p10,_⟩:=hs.good.len d1 d5;have em:(e9_ d (bx_ d ps)).length=d:=hX_ hs.okl hs.nn;refine⟨_,rfl,_,rfl,d,dv,ps,rfl,d1,d5,hd,hs,fun H1 s1=> ?_⟩;refine⟨_,rfl,_,rfl,_,rfl,_,rfl,d,dv,ps,rfl,d1,d5,hd.mono s1,hs,by lia,fun l2 H2 s2 n2 h2=> ?_⟩;refine⟨_,_,(hd.mono s1).mono s2,h2,An (ao_ (by rw [A1,A1];lia)),fun l3 H3 n3 s3 h3=> ?_⟩;rw [<-AG] at h3;refine⟨d, .ref l3,_,rfl,d1,d5,h3,uf_ hs d1 d5,fun H4 s4=>kk H4 (((s1.trans s2).trans s3).trans s4)⟩
theorem og_:FnOk P w K mg base CX0 1 T.f34 T.d34 ["drawing"] (pW_ K):=by
 refine T.X34.F.ok es_ (fun vs H Q E h=> ?_) (fun cdv A outer s H vs Q E hr h=> ?_)
 .obtain⟨_,_,_,rfl,_⟩:=h;rfl
 .obtain⟨dv,ps,d,rfl,hd,hok,kk⟩:=h;refine⟨_,(ac_ (ar_ (i:=1) es_.nd rfl (by trivial) ae_)
   (ac_ (aD_ AQ rfl (aP_ (pv 0)) (aj_ (i:=2) es_.nd rfl (by trivial)) (ad_ (jF_ (i:=1) es_.nd rfl (by trivial) (al_ fA_ (bp_ aQ_ (pv 2) ae_ (fun _ _=>rfl)) ae_) jb_)))
   (ad_ (ap_ (pv 1))))), ?_⟩
  obtain⟨da,dvs,rfl,hda,hdi⟩:=bT_ hd;have dlen:dvs.length=ps.length:=by rw [hdi.length,A1]
  refine⟨_,rfl,da,rfl,⟨_,SqL.of hda⟩,aO_ (xs:=dvs) (fun i σ H2=>(∃v2,σ=[some (.ref da),some (.int (ed_ (ps.take i))),v2])/\H2=H) ⟨⟨none,rfl⟩,rfl⟩ (fun i σ H2 _ h=>by rw [h.2];exact SqL.of hda) ?_ ?_⟩
  .rintro i x σ H2 hi ⟨⟨v2,rfl⟩,rfl⟩;obtain⟨dd,hdd,hy⟩:=hdi.of_get hi;rw [A9] at hdd;obtain⟨p,hp',rfl⟩:=A4.mp hdd;obtain⟨_,w1,w2⟩:=hok p (AU hp');have b1:p.2.2.natAbs<2^64:=by lia
   have b2:p.2.2^(2:Int).toNat<2^64:=by
    show p.2.2^2<2^64;have:p.2.2*p.2.2<=2^20*2^20:=CN w2 w2 (by lia) (by decide);rw [Int.pow_succ,Int.pow_succ,Int.pow_zero,Int.one_mul];lia
   have b3: -(2^64)<p.2.2^(2:Int).toNat:=by
    show _<p.2.2^2;have h0:0<=p.2.2*p.2.2:=Bs (by lia) (by lia);have h1:p.2.2^2=p.2.2*p.2.2:=by rw [Int.pow_succ,Int.pow_succ,Int.pow_zero,Int.one_mul]
    rw [h1];lia
   refine⟨_,rfl,_,rfl,_,2,_,hy,rfl,rfl,fun u hu=> ?_⟩;rw [do_ hu];refine⟨_,_,rfl,rfl,⟨by decide,by decide,b1⟩,_,_,rfl,rfl, .inr ⟨b3,b2⟩,⟨some x, ?_⟩,rfl⟩;rw [AZ,hp'];unfold ed_;rw [CH];rfl
  .rintro σ H2 ⟨⟨v2,rfl⟩,rfl⟩;rw [dlen,AW];exact⟨_,rfl,kk⟩
theorem bW_:FnOk P w K mg base CX0 12 T.f40 T.d40 ["d","k"] (tY_ ut_):=by
 refine T.X40.F.ok du_ (fun vs H Q E h=> ?_) (fun cdv A outer s H vs Q E hr h=> ?_)
 .obtain⟨_,_,rfl,_⟩:=h;rfl
 .obtain⟨d,k,rfl,hW,kk⟩:=h;refine⟨_,(ac_ (aG_ (ah_ (cE_ T) (hr.mono (by decide)) (by rfl) T.X2.m T.X2.F.kp T.X2.B .nil aq_ (aa_ (pv 0) (aa_ (pv 1) ab_))))
   (ad_ (ap_ (az_ (dK_ rfl) (by rfl) T.n_sum boot_sum (aa_ (bV_ (XN:=["d","k"]) (sc:=af_ a6_) (N:=["drawing","d"]) (own:=1) (js:=[0]) rfl (by ac_nf) rfl rfl (aP_ (ah_ (iX_ T) (hr.mono (by decide)) (by rfl) T.X33.m T.X33.F.kp T.X33.B .nil aq_ (aa_ (pv 0) (aa_ (pv 1) ab_)))) (fun _ _ _ _=>(aj_ (i:=0) (show List.Nodup (["drawing","d"]:List Str) by ac_nf) rfl (Or.inl rfl) (.inr rfl))) (cD_ (by decide)) (fun _ _ _ _=>cf_) (fun _ _ _ _=>(al_ ba_ (ah_ (og_ T) (hr.mono (by decide)) (by rfl) T.X34.m T.X34.F.kp T.X34.B .nil aq_ (aa_ (pv 0) ab_)) (ah_ (iW_ T) (hr.mono (by decide)) (by rfl) T.X39.m T.X39.F.kp T.X39.B .nil aq_ (aa_ (pv 1) (aa_ (pv 0) ab_)))))) ab_))))), ?_⟩
  obtain⟨_,_,_,g4,g5⟩:=sK_ hW;have d15:1<=d/\d<=5:=by unfold Wide at hW;lia
  refine⟨_,rfl,_,rfl,d,k,rfl,hW, ?_⟩;refine⟨_,rfl,_,rfl,d,k,rfl,hW,fun l H1 s1 nl hl=> ?_⟩;have hl:=hl.mono bg_;obtain⟨_,lvs,e,hl1,hli⟩:=bT_ hl;cases e;have llen:lvs.length=(sD d k).length:=by rw [hli.length,A1]
  refine⟨l,rfl,⟨_,SqL.of hl1⟩,fun acc na=> ?_⟩;refine dJ_ (xs:=lvs) (own:=1) (js:=[0]) (fun i H3=>an_ H1 H3/\H3 acc=some (.lst ((((sD d k).take i).map (uF_ d)).map V.int))) ⟨an_.new na,ag_⟩ (fun i H3 _ h=>SqL.of (h.1 _ _ hl1)) ?_ ?_ cJ_ cg_ ?_
  .rintro i y H3 hi ⟨s3,hacc⟩;obtain⟨dd,hdd,hy⟩:=hli.of_get hi;rw [A9] at hdd;obtain⟨x,hx,rfl⟩:=A4.mp hdd;have il:i<(sD d k).length:=(AD.mp hx).1;obtain⟨o1,o2,o3,o4,o5,_⟩:=mn_ (g4 x (AU hx));have hy3:=hy.mono s3;refine s8_ ?_;refine⟨_,rfl,y,x,d,rfl,hy3,(fun p hp=>⟨trivial,(o2 p hp).2⟩),_,rfl,_,rfl,d,y,x,rfl,d15.1,d15.2,hy3,o1,fun H4 s4=> ?_⟩;refine⟨_,_,rfl,rfl, .inl ⟨by lia,by lia⟩,acc,_,_,rfl,rfl,s4 _ _ hacc,ao_ (by rw [A1,A1,B4];lia),(s3.trans s4).put na, ?_⟩;rw [ag_,AZ,hx,AG,AG];rfl
  .rintro H3 ⟨s3,hacc⟩;rw [llen,AW] at hacc;exact⟨acc,_,rfl,SqL.of hacc,kk H3 (s1.trans s3)⟩
  .rintro σ H R R' k' ⟨v1,e1,dv,ps,d',e2,i1,o1,v2,e3,v3,e4,n,dv2,ps2,e5,a1,a2,i2,sn,kk2⟩;exact⟨v1,e1,dv,ps,d',e2,i1,o1,v2,e3,v3,e4,n,dv2,ps2,e5,a1,a2,i2,sn,fun H' s'=>let ⟨i,j,x1,x2,x3,x4⟩:=kk2 H' s';⟨i,j,x1,x2,x3,k' _ _ x4⟩⟩
theorem dE_:FnOk P w K mg base CX0 1 T.f42 T.d42 ["_law_cell"] (pX_ K):=by
 refine T.X42.F.ok a5_ (fun vs H Q E h=> ?_) (fun cdv A outer s H vs Q E hr h=> ?_)
 .obtain⟨_,rfl,_⟩:=h;rfl
 .obtain⟨x,rfl,kk⟩:=h;refine⟨_,(ac_ (bl_ (aF_ qj_ (pv 0) (al_ fA_ ae_ ae_) (aL_ _)) (ad_ (ap_ (al_ aH_ (pv 0) (al_ fA_ ae_ ae_)))) aB_)
   (ac_ (bl_ (aF_ kT_ (pv 0) (al_ aH_ ae_ (al_ fA_ ae_ ae_)) (aL_ _)) (ad_ (ap_ (al_ aH_ (al_ aH_ ae_ (pv 0)) (al_ fA_ ae_ ae_)))) aB_)
   (ac_ (ar_ (i:=1) a5_.nd rfl (by trivial) (al_ aE_ (al_ jK_ (pv 0) ae_) ae_))
   (ac_ (ar_ (i:=2) a5_.nd rfl (by trivial) ae_)
   (ac_ (aD_ AQ rfl (cC_ (by rfl) T.n_range (aa_ ae_ ab_)) (aj_ (i:=3) a5_.nd rfl (by trivial)) (ac_ (ar_ (i:=1) a5_.nd rfl (by trivial) (al_ jK_ (al_ aE_ (al_ aE_ (al_ aE_ (al_ ba_ (pv 1) ae_) (al_ ba_ (al_ ba_ ae_ (pv 3)) (pv 3))) (al_ dZ_ (pv 1) ae_)) ae_) ae_))
   (ad_ (ar_ (i:=2) a5_.nd rfl (by trivial) (al_ aE_ (al_ ba_ (pv 2) ae_) (al_ jK_ (al_ ba_ (pv 1) ae_) ae_))))))
   (ad_ (ap_ (pv 2)))))))), ?_⟩
  have e18:(10:Int)^(18:Int).toNat=10^18:=rfl;refine⟨_,rfl,10,18,rfl,rfl,⟨by decide,by decide,by decide⟩,_,_,rfl,rfl,_,rfl,hP_ (fun h=> ?_) (fun h=> ?_)⟩
  .exact⟨_,rfl,10,18,rfl,rfl,⟨by decide,by decide,by decide⟩,_,_,rfl,rfl,kk _ (by lia)⟩
  .refine⟨_,rfl,10,18,rfl,rfl,⟨by decide,by decide,by decide⟩,_,_,rfl,rfl,_,_,rfl,rfl,_,rfl,hP_ (fun h2=> ?_) (fun h2=> ?_)⟩
   .exact⟨_,rfl,_,_,rfl,rfl,10,18,rfl,rfl,⟨by decide,by decide,by decide⟩,_,_,rfl,rfl,kk _ (by lia)⟩
   .refine⟨_,rfl,_,_,rfl,rfl,(show(0:Int)<2147483629 by decide),_,_,rfl,rfl, ?_⟩;refine⟨8,rfl,by decide,by decide,aU_ (n:=8) (fun i σ H2=>(∃(y f:Int) (v3:Option V),σ=[some (.int x),some (.int y),some (.int f),v3]/\0<=y/\0<=f)/\H2=H) ⟨⟨_,0,none,rfl,by lia,by decide⟩,rfl⟩ ?_ ?_⟩
    .rintro i σ H2 hi ⟨⟨y,f,v3,rfl,y0,f0⟩,rfl⟩;refine⟨_,rfl,_,_,rfl,rfl, .inr ⟨by decide,by decide⟩,_,rfl,_,_,rfl,rfl, .inl ⟨by decide,by decide⟩,_,rfl,_,_,rfl,rfl, .inr ⟨by lia,by lia⟩,_,_,rfl,rfl,_,rfl,_,_,rfl,rfl,⟨by decide,by decide⟩,_,_,rfl,rfl,_,_,rfl,rfl,_,_,rfl,rfl,(show(0:Int)<2147483647 by decide), ?_⟩;refine⟨_,rfl,_,_,rfl,rfl, .inr ⟨by decide,by decide⟩,_,rfl,_,_,rfl,rfl, .inr ⟨by decide,by decide⟩,_,_,rfl,rfl,(show(0:Int)<2147483629 by decide),_,_,rfl,rfl, ?_⟩;exact⟨⟨_,_,_,rfl,Int.emod_nonneg _ (by decide),Int.add_nonneg (Bs f0 (by decide)) (Int.emod_nonneg _ (by decide))⟩,rfl⟩
    .rintro σ H2 ⟨⟨y,f,v3,rfl,y0,f0⟩,rfl⟩;exact⟨_,rfl,kk _ f0⟩
theorem bJ_:FnOk P w K mg base CX0 1 T.f43 T.d43 ["_law_rest","_law_m"] (tX_ K):=by
 refine T.X43.F.ok dw_ (fun vs H Q E h=> ?_) (fun cdv A outer s H vs Q E hr h=> ?_)
 .obtain⟨_,_,_,rfl,_⟩:=h;rfl
 .obtain⟨b,m,z,rfl,hb,z0,m0,m1,kk⟩:=h;refine⟨_,(ac_ (ar_ (i:=2) dw_.nd rfl (by trivial) (al_ jK_ (bp_ dm_ (pv 0) ae_ (fun _ _=>rfl)) (pv 1)))
   (ac_ (rX_ (al_ od_ (bp_ dm_ (pv 0) ae_ (fun _ _=>rfl)) (pv 1)) (rZ_ (pv 0) ae_ fX_))
   (ad_ (ap_ (pv 2))))), ?_⟩
  refine⟨_,rfl,b,_,_,_,rfl,rfl,SqL.of hb,by rfl,_,rfl,_,_,rfl,rfl,m0, ?_⟩;refine⟨_,rfl,b,_,_,_,rfl,rfl,SqL.of hb,by rfl,_,rfl,_,_,rfl,rfl,sY_ m0 m1,_,rfl,b,_,_,0,rfl,rfl,hb,by rfl, ?_⟩;exact⟨_,rfl,kk _ _ (Int.emod_nonneg _ (by lia)) (Int.emod_lt_of_pos _ m0) (Int.fdiv_nonneg z0 (by lia))⟩
theorem ho_:FnOk P w K mg base CX0 2 T.f5 T.d5 ["thing"] (tS_ K):=by
 refine T.X5.F.ok hc_ (fun vs H Q E h=> ?_) (fun cdv A outer s H vs Q E hr h=> ?_)
 .obtain⟨_,_,rfl,_⟩:=h;rfl
 .obtain⟨v,t,rfl,hv,⟨tn,tl,tt⟩,kk⟩:=h;refine⟨_,(ac_ (bl_ (dz_ (cB_ (az_ cS_ (by rfl) T.n_isinstance Bz (aa_ (pv 0) (aa_ (dg_ (v:= .ty "list") (by rfl) T.n_list boot_list (by rfl)) ab_))))) (ad_ (ap_ fk_)) aB_)
   (ac_ (aD_ AQ rfl (aP_ (pv 0)) (aj_ (i:=1) hc_.nd rfl (by trivial)) (ad_ (bl_ (iL_ (dz_ (cB_ (ah_ (eR_ T) (hr.mono (by decide)) (by rfl) T.X0.m T.X0.F.kp T.X0.B .nil aq_ (aa_ (pv 1) ab_)))) (fy_ (aF_ ml_ (pv 1) ae_ (aL_ _)))).pt (ad_ (ap_ fk_)) aB_)))
   (ad_ (ap_ (ub_ (qc_ (pv 0)) (jI_ (md_ oc_ (bp_ dm_ (pv 0) (r2_ oX_ ae_) (fun _ _=>rfl)) ae_ (aL_ _)))))))), ?_⟩
  obtain⟨a,rfl,ha⟩:=fE_ hv;refine⟨_,rfl,_,"list",_,true,rfl, .lst ha,or_,true,rfl,gF_ ?_⟩;refine⟨_,rfl,a,rfl,⟨_,SqL.of ha⟩,aO_ (xs:=t.map V.int) (fun i σ H2=>(∃v1,σ=[some (.ref a),v1])/\H2=H) ⟨⟨none,rfl⟩,rfl⟩ (fun i σ H2 _ h=>by rw [h.2];exact SqL.of ha) ?_ ?_⟩
  .rintro i y σ H2 hi ⟨⟨v1,rfl⟩,rfl⟩;rw [A9] at hi;obtain⟨x,hx,rfl⟩:=A4.mp hi;have x0:0<=x:=by
    have:=tn i;rw [A8,hx] at this;exact this
   refine⟨_,rfl,_,rfl, .inl ⟨_,rfl⟩,true,rfl,gF_ ⟨_,rfl,_,_,rfl,rfl,_,rfl,hP_ (fun h=>absurd h (by lia)) (fun _=>⟨⟨_,rfl⟩,rfl⟩)⟩⟩
  .rintro σ H2 ⟨⟨v1,rfl⟩,rfl⟩;refine⟨_,rfl,a,_,rfl,SqL.of ha,_,rfl, ?_⟩;rcases tt with rfl|⟨s,x,rfl,x0⟩
   .exact ov_ kk
   .have e0:((s++[x]).map V.int).isEmpty=false:=by
     cases s<;>rfl
    rw [e0];refine gF_ ⟨_,rfl,1,rfl,a,_,-1, .int x,rfl,rfl,SqL.of ha, ?_,_,_,rfl,rfl, ?_⟩
    .unfold atI ixN;rw [A1,AC,A5 (by decide),A7 (by simp;lia)];show((s++[x]).map V.int)[((-1:Int)+((s.length+1:Nat):Int)).toNat]? =_;rw [show((-1:Int)+((s.length+1:Nat):Int)).toNat=s.length by lia,A9,CM (AA _),Nat.sub_self];rfl
    .show Q (.bl (decide (0<x))) H2;rw [BF x0];exact kk
theorem ll_ {t:List Int}{i:Nat}{x:Int} (h:t[i]? =some x):((List.range (i+1)).map fun j:Nat=>((j:Int)+1)*t.getD j 0)=((List.range i).map fun j:Nat=>((j:Int)+1)*t.getD j 0)++[((i:Int)+1)*x]:=by
 rw [Au,AG,AK,D8,A8,h];rfl
theorem oT_ (t:List Int):((List.range t.length).map fun j:Nat=>((j:Int)+1)*t.getD j 0).sum=wtF t:=by
 have go:∀(t:List Int) (i:Int),((List.range t.length).map fun j:Nat=>((j:Int)+i)*t.getD j 0).sum=wtG i t:=fun t=>by
  induction t with
  |nil=>intro i;rfl
  |cons x t ih=>
   intro i;rw [AY,List.range_succ_eq_map,AK,BX,Aj];unfold wtG;rw [<-ih (i+1)];congr 1
   .simp
   .refine Bb List.sum (Ao fun j _=> ?_);show(((j+1:Nat):Int)+i)*t.getD j 0=_;rw [show((j+1:Nat):Int)+i=(j:Int)+(i+1) by lia]
 exact go t 1
theorem dC_:FnOk P w K mg base CX0 1 T.f6 T.d6 ["row"] (tL_ K):=by
 refine T.X6.F.ok dt_ (fun vs H Q E h=> ?_) (fun cdv A outer s H vs Q E hr h=> ?_)
 .obtain⟨_,_,rfl,_⟩:=h;rfl
 .obtain⟨v,t,rfl,hv,tl,kk⟩:=h;refine⟨_,(ad_ (ap_ (az_ (dK_ rfl) (by rfl) T.n_sum boot_sum (aa_ (bV_ (XN:=["row"]) (sc:=af_ bu_) (N:=["place","number"]) (own:=2) (js:=[]) rfl (by ac_nf) rfl rfl (iP_ (by rfl) T.n_enumerate (pv 0)) (fun _ _ _ _=>(iQ_ (K:=K) rfl rfl (as_ (aj_ (i:=0) (show List.Nodup (["place","number"]:List Str) by ac_nf) rfl (Or.inl rfl) (.inr rfl)) (as_ (aj_ (i:=1) (show List.Nodup (["place","number"]:List Str) by ac_nf) rfl (Or.inl rfl) (.inr rfl)) bd_)))) eP_ (fun _ _ _ _=>cf_) (fun _ _ _ _=>(al_ ba_ (al_ aE_ (pv 0) ae_) (pv 1)))) ab_)))), ?_⟩;obtain⟨a,rfl,ha⟩:=fE_ hv;refine⟨_,rfl,a,rfl,⟨_,SqL.of ha⟩,fun acc na=> ?_⟩;refine k6_ (xs:=t.map V.int) (own:=2) (js:=[]) (fun i H2=>an_ H H2/\H2 acc=some (.lst (((List.range i).map fun j:Nat=>((j:Int)+1)*t.getD j 0).map V.int))) ⟨an_.new na,ag_⟩ (fun i H2 _ h=>SqL.of (h.1 _ _ ha)) ?_ ?_ eW_ cg_ ?_
  .rintro i y H2 p hi ⟨s2,hacc⟩ np;rw [A9] at hi;obtain⟨x,hx,rfl⟩:=A4.mp hi;have il:i<t.length:=(AD.mp hx).1;have s3:an_ H2 (upd H2 p (.tup [.int i, .int x])):=an_.new np;refine⟨p,_,rfl,SqT.of ag_,rfl,_,_,rfl,_,_,rfl,rfl, ?_⟩;refine⟨_,rfl,_,_,rfl,rfl,_,rfl,_,_,rfl,rfl, .inl ⟨by lia,by lia⟩,acc,_,_,rfl,rfl,s3 _ _ hacc,ao_ (by rw [A1,A1,BI];lia),(s2.trans s3).put na, ?_⟩;rw [ag_,ll_ hx,AG];rfl
  .rintro H2 ⟨s2,hacc⟩;rw [A1] at hacc;refine⟨acc,_,rfl,SqL.of hacc, ?_⟩;rw [oT_];exact kk H2 s2
  .rintro σ H R R' k ⟨v1,e1,i1,i2,e2,e3,v2,e4,i3,i4,e5,e6,c,h⟩;exact⟨v1,e1,i1,i2,e2,e3,v2,e4,i3,i4,e5,e6,c,k _ _ h⟩
theorem cZ_:FnOk P w K mg base CX0 1 T.f6 T.d6 ["row"] (tK_ K):=by
 refine T.X6.F.ok dt_ (fun vs H Q E h=> ?_) (fun cdv A outer s H vs Q E hr h=> ?_)
 .obtain⟨_,_,rfl,_⟩:=h;rfl
 .obtain⟨v,t,rfl,hv,tl,kk⟩:=h;refine⟨_,(ad_ (ap_ (az_ (dK_ rfl) (by rfl) T.n_sum boot_sum (aa_ (bV_ (XN:=["row"]) (sc:=af_ bu_) (N:=["place","number"]) (own:=2) (js:=[]) rfl (by ac_nf) rfl rfl (f8_ (by rfl) T.n_enumerate (pv 0)) (fun _ _ _ _=>(iQ_ (K:=K) rfl rfl (as_ (aj_ (i:=0) (show List.Nodup (["place","number"]:List Str) by ac_nf) rfl (Or.inl rfl) (.inr rfl)) (as_ (aj_ (i:=1) (show List.Nodup (["place","number"]:List Str) by ac_nf) rfl (Or.inl rfl) (.inr rfl)) bd_)))) eP_ (fun _ _ _ _=>cf_) (fun _ _ _ _=>(al_ ba_ (al_ aE_ (pv 0) ae_) (pv 1)))) ab_)))), ?_⟩;obtain⟨a,rfl,ha⟩:=bS_ hv;refine⟨_,rfl,a,rfl,⟨_,SqT.of ha⟩,fun acc na=> ?_⟩;refine k5_ (xs:=t.map V.int) (own:=2) (js:=[]) (fun i H2=>an_ H H2/\H2 acc=some (.lst (((List.range i).map fun j:Nat=>((j:Int)+1)*t.getD j 0).map V.int))) ⟨an_.new na,ag_⟩ (fun i H2 _ h=>SqT.of (h.1 _ _ ha)) ?_ ?_ eW_ cg_ ?_
  .rintro i y H2 p hi ⟨s2,hacc⟩ np;rw [A9] at hi;obtain⟨x,hx,rfl⟩:=A4.mp hi;have il:i<t.length:=(AD.mp hx).1;have s3:an_ H2 (upd H2 p (.tup [.int i, .int x])):=an_.new np;refine⟨p,_,rfl,SqT.of ag_,rfl,_,_,rfl,_,_,rfl,rfl, ?_⟩;refine⟨_,rfl,_,_,rfl,rfl,_,rfl,_,_,rfl,rfl, .inl ⟨by lia,by lia⟩,acc,_,_,rfl,rfl,s3 _ _ hacc,ao_ (by rw [A1,A1,BI];lia),(s2.trans s3).put na, ?_⟩;rw [ag_,ll_ hx,AG];rfl
  .rintro H2 ⟨s2,hacc⟩;rw [A1] at hacc;refine⟨acc,_,rfl,SqL.of hacc, ?_⟩;rw [oT_];exact kk H2 s2
  .rintro σ H R R' k ⟨v1,e1,i1,i2,e2,e3,v2,e4,i3,i4,e5,e6,c,h⟩;exact⟨v1,e1,i1,i2,e2,e3,v2,e4,i3,i4,e5,e6,c,k _ _ h⟩
theorem hn_:FnOk P w K mg base CX0 3 T.f7 T.d7 ["d","held","free"] (tQ_ K):=by
 refine T.X7.F.ok ha_ (fun vs H Q E h=> ?_) (fun cdv A outer s H vs Q E hr h=> ?_)
 .obtain⟨_,_,_,_,_,rfl,_⟩:=h;rfl
 .obtain⟨d,v1,v2,a,b,rfl,h1,h2,r1,r2,e,kk⟩:=h;refine⟨_,(ac_ (bl_ (iL_ (dz_ (cB_ (ah_ (ho_ T) (hr.mono (by decide)) (by rfl) T.X5.m T.X5.F.kp T.X5.B .nil aq_ (aa_ (pv 1) ab_)))) (fy_ (dz_ (cB_ (ah_ (ho_ T) (hr.mono (by decide)) (by rfl) T.X5.m T.X5.F.kp T.X5.B .nil aq_ (aa_ (pv 2) ab_)))))).pt (ad_ f5_) aB_)
   (ad_ (bl_ (aF_ qi_ (al_ aE_ (ah_ (dC_ T) (hr.mono (by decide)) (by rfl) T.X6.m T.X6.F.kp T.X6.B .nil aq_ (aa_ (pv 1) ab_)) (ah_ (dC_ T) (hr.mono (by decide)) (by rfl) T.X6.m T.X6.F.kp T.X6.B .nil aq_ (aa_ (pv 2) ab_))) (pv 0) (aL_ _)) (ad_ f5_) aB_))), ?_⟩
  refine⟨_,rfl,v1,a,rfl,h1,r1,true,rfl,gF_ ⟨_,rfl,v2,b,rfl,h2,r2,true,rfl,gF_ ?_⟩⟩;refine⟨_,rfl,v1,a,rfl,h1,r1.2.1,fun H1 s1=>⟨_,rfl,v2,b,rfl,h2.mono s1,r2.2.1,fun H2 s2=> ?_⟩⟩;exact⟨_,_,rfl,rfl,_,rfl,rfl,_,rfl,qF_ (fun hz=>absurd e hz) fun _=>kk H2 (s1.trans s2)⟩
theorem gg_:FnOk P w K mg base CX0 1 T.f9 T.d9 ["numbers"] (tN_ K):=by
 refine T.X9.F.ok bG_ (fun vs H Q E h=> ?_) (fun cdv A outer s H vs Q E hr h=> ?_)
 .obtain⟨_,_,rfl,_⟩:=h;rfl
 .obtain⟨v,ws,rfl,hv,hw,kk⟩:=h;refine⟨_,(ac_ (ar_ (i:=1) bG_.nd rfl (by trivial) ae_)
   (ac_ (aD_ AQ rfl (aP_ (pv 0)) (aj_ (i:=2) bG_.nd rfl (by trivial)) (ad_ (jF_ (i:=1) bG_.nd rfl (by trivial) (pv 2) jb_)))
   (ad_ (ap_ (pv 1))))), ?_⟩
  obtain⟨a,rfl,ha⟩:=fE_ hv;refine⟨_,rfl,a,rfl,⟨_,SqL.of ha⟩,aO_ (xs:=ws.map V.int) (fun i σ H2=>(∃v2,σ=[some (.ref a),some (.int (il_ (ws.take i))),v2])/\H2=H) ⟨⟨none,rfl⟩,rfl⟩ (fun i σ H2 _ h=>by rw [h.2];exact SqL.of ha) ?_ ?_⟩
  .rintro i y σ H2 hi ⟨⟨v2,rfl⟩,rfl⟩;rw [A9] at hi;obtain⟨x,hx,rfl⟩:=A4.mp hi;obtain⟨x1,x5⟩:=hw x (AU hx);refine⟨_,rfl,_,rfl,_,_,rfl,rfl, .inr ⟨by lia,by lia⟩,⟨some (.int x), ?_⟩,rfl⟩;have e:il_ (ws.take (i+1))=il_ (ws.take i)*x:=by
    rw [AZ,hx];unfold il_;rw [CH];rfl
   rw [e];rfl
  .rintro σ H2 ⟨⟨v2,rfl⟩,rfl⟩;rw [A1,AW];exact⟨_,rfl,kk⟩
theorem eg_:FnOk P w K mg base CX0 1 T.f10 T.d10 ["row","length"] (tU_ K):=by
 refine T.X10.F.ok hd_ (fun vs H Q E h=> ?_) (fun cdv A outer s H vs Q E hr h=> ?_)
 .obtain⟨_,_,_,rfl,_⟩:=h;rfl
 .obtain⟨v,t,n,rfl,hv,tn,n5,kk⟩:=h;refine⟨_,(ad_ (ap_ (hk_ c4_ (by rfl) T.n_tuple boot_tuple (aa_ (al_ gc_ (pv 0) (al_ eQ_ (au_ (aa_ ae_ ab_)) (al_ aH_ (pv 1) (az_ cM_ (by rfl) T.n_len boot_len (aa_ (pv 0) ab_))))) ab_)))), ?_⟩;obtain⟨a,rfl,ha⟩:=fE_ hv;refine⟨_,rfl,(by show 1<=sizeLine;decide),fun l1 H1 n1 s1 h1=> ?_⟩;refine⟨_,rfl,_,rfl,a,_,rfl, .inl (SqL.of (s1 _ _ ha)),_,_,rfl,rfl, .i 0,_,cq_ h1 (ai_ e4_ am_),rfl, ?_, ?_, ?_,fun l2 H2 n2 s2 h2=> ?_⟩
  .rw [A1];lia
  .rw [A1];lia
  .exact An (ao_ (by rw [A1];lia))
  refine⟨_,_,hv.mono (s1.trans s2),h2,An (ao_ (by rw [A1,BC,A1];lia)),fun l3 H3 n3 s3 h3=> ?_⟩;refine⟨_,_,rfl,h3,fun l4 H4 n4 s4 h4=>kk _ H4 (((s1.trans s2).trans s3).trans s4) ?_⟩;have e:t.map D.i++List.replicate (((n:Int))-(((t.map V.int).length:Nat):Int)).toNat (D.i 0)=(hm_ n t).map D.i:=by
   unfold hm_;rw [A1,AG,Cb,show((n:Int)-(t.length:Int)).toNat=n-t.length by lia]
  rw [e] at h4;exact h4
theorem fl_:FnOk P w K mg base CX0 1 T.f11 T.d11 ["row"] (tJ_ K):=by
 refine T.X11.F.ok aX_ (fun vs H Q E h=> ?_) (fun cdv A outer s H vs Q E hr h=> ?_)
 .obtain⟨_,_,rfl,_⟩:=h;rfl
 .obtain⟨v,t,rfl,hv,tn,ts,tl,kk⟩:=h;refine⟨_,(ac_ (ar_ (i:=1) aX_.nd rfl (by trivial) (au_ (aa_ (aM_ ab_) ab_)))
   (ac_ (aD_ AQ rfl (o7_ (pv 0)) (aj_ (i:=2) aX_.nd rfl (by trivial)) (ac_ (ar_ (i:=3) aX_.nd rfl (by trivial) (au_ ab_))
   (ac_ (aD_ AQ rfl (aP_ (pv 1)) (aj_ (i:=4) aX_.nd rfl (by trivial)) (ad_ (aG_ (cT_ Ac C7 C6 cI_ (pv 3) (aa_ (bV_ (XN:=["row","found","number","longer","begun"]) (sc:=af_ bI_) (N:=["here","begun"]) (own:=1) (js:=[4]) rfl (by ac_nf) rfl rfl (cC_ (by rfl) T.n_range (aa_ (al_ aE_ (pv 2) ae_) ab_)) (fun _ _ _ _=>(aj_ (i:=0) (show List.Nodup (["here","begun"]:List Str) by ac_nf) rfl (Or.inl rfl) (.inr rfl))) (cD_ (by decide)) (fun _ _ _ _=>cf_) (fun _ _ _ _=>(al_ iT_ (pv 1) (aM_ (aa_ (pv 0) ab_))))) ab_)))))
   (ad_ (ar_ (i:=1) aX_.nd rfl (by trivial) (pv 3))))))
   (ad_ (ap_ (pv 1))))), ?_⟩
  obtain⟨a,rfl,ha⟩:=bS_ hv;refine⟨AM _,fun e0 H1 ne0 s1 he0=>⟨(by show 1<=sizeLine;decide),fun f0 H2 nf0 s2 hf0=> ?_⟩⟩;have s02:=s1.trans s2;refine⟨_,rfl,a,rfl,⟨_,SqT.of (s02 _ _ ha)⟩,qQ_ (xs:=t.map V.int) (fun i σ H3=>(∃fo v2 v3 v4,σ=[some (.ref a),some (.ref fo),v2,v3,v4]/\H fo=none/\Is H3 (.l ((rwF (t.take i)).map tI)) (.ref fo))/\an_ H H3) ⟨⟨f0,none,none,none,rfl,s1.free nf0,cq_ hf0 (ai_ (e3_ (xs:=[]) (s2 _ _ he0)) am_)⟩,s02⟩ (fun i σ H3 _ h=>SqT.of (h.2 _ _ ha)) ?_ ?_⟩
  .rintro i y σ H3 hi ⟨⟨fo,v2,v3,v4,rfl,nfo,hfo⟩,s3⟩;rw [A9] at hi;obtain⟨x,hx,rfl⟩:=A4.mp hi;have il:i<t.length:=(AD.mp hx).1;have x0:0<=x:=by
    have:=tn i;rw [A8,hx] at this;exact this
   have nx:rwF (t.take (i+1))=rwS (rwF (t.take i)) x:=by
    rw [AZ,hx];unfold rwF;rw [CH];rfl
   have big:(rwS (rwF (t.take i)) x).length<=32:=by rw [<-nx];exact lP_ tn ts (i+1)
   have hFl:∀b∈rwF (t.take i),b.length<=5:=fun b hb=>by
    have:=(lO_ (qo_ tn i) hb).len;rw [B4] at this;lia
   rw [nx];generalize rwF (t.take i)=F at hfo big hFl;obtain⟨_,fvs,e,hfo3,hfi⟩:=bT_ hfo;cases e;have flen:fvs.length=F.length:=by rw [hfi.length,A1]
   refine⟨AM _,fun lo H4 nlo s4 hlo=> ?_⟩;have nloH:H lo=none:=s3.free nlo;have fl:fo≠lo:=by rintro rfl;rw [hfo3] at nlo;cases nlo
   have part:∀j,(rwS (F.take j) x).length<=32:=fun j=>by
    rw [lQ_] at big⊢;refine B6 (Nat.mul_le_mul_right _ ?_) big;rw [B4];lia
   refine⟨_,rfl,fo,rfl,⟨_,SqL.of (s4 _ _ hfo3)⟩,aO_ (xs:=fvs) (fun j σ H5=>(∃v4,σ=[some (.ref a),some (.ref fo),some (.int x),some (.ref lo),v4])/\an_ H H5/\H5 fo=some (.lst fvs)/\by_ H4 H5/\∃lvs,H5 lo=some (.lst lvs)/\Iss H5 ((rwS (F.take j) x).map tI) lvs) ⟨⟨_,rfl⟩,s3.trans s4,s4 _ _ hfo3,by_.of_same (an_.refl _),[],hlo,am_⟩ (fun j σ H5 _ h=>SqL.of h.2.2.1) ?_ ?_⟩
   .rintro j b σ H5 hj ⟨⟨v4,rfl⟩,s5,hfo5,t5,lvs,hlo5,hl5⟩;obtain⟨dd,hdd,hb⟩:=hfi.of_get hj;rw [A9] at hdd;obtain⟨bb,hbb,rfl⟩:=A4.mp hdd;have hb5:Is H5 (tI bb) b:=fg_ t5 (hb.mono s4);have nx2:rwS (F.take (j+1)) x=rwS (F.take j) x++(List.range (x+1).toNat).map fun h:Nat=>bb++[(h:Int)]:=by
     unfold rwS;rw [AZ,hbb,B0];simp
    have pj:=part (j+1);rw [nx2] at pj⊢;rw [AC,A1,BI] at pj;have ll:lvs.length=(rwS (F.take j) x).length:=by rw [hl5.length,A1]
    generalize rwS (F.take j) x=R at hl5 pj ll;refine⟨_,rfl, .inl ⟨rfl,_,SqL.of hlo5⟩,_,rfl,_,_,rfl,rfl,_,rfl,by lia,by lia,fun acc na=> ?_⟩;have naH:H acc=none:=s5.free na;refine k4_ (lo:=0) (n:=(x+1).toNat) (own:=1) (js:=[4]) (fun m H6=>an_ H5 H6/\∃zs,H6 acc=some (.lst zs)/\Iss H6 (((List.range m).map fun h:Nat=>bb++[(h:Int)]).map tI) zs) ⟨an_.new na,[],ag_,am_⟩ ?_ ?_ cJ_ cg_ ?_
    .rintro m H6 hm ⟨s6,zs,hacc,hz⟩;rw [Int.zero_add];refine⟨_,rfl,_,rfl,(by show 1<=sizeLine;decide),fun q H7 nq s7 hq=> ?_⟩;have s57:=s6.trans s7;refine⟨bb.map .i,[.i (m:Int)],hb5.mono s57,gX_ hq (ai_ e4_ am_),An (ao_ (by have:=hFl bb (AU hbb);rw [A1];show _+1<=1000;lia)),fun u H8 s8 hu=> ?_⟩;have hacc8:=s8 _ _ (s7 _ _ hacc);have zl:zs.length=m:=by rw [hz.length,A1,A1,BI]
     refine⟨acc,zs,_,rfl,rfl,hacc8,ao_ (by lia),(s57.trans s8).put na,_,ag_, ?_⟩;have tu:by_ H8 (upd H8 acc (.lst (zs++[u]))):=by_.upd hacc8;rw [Au,AG,AG];refine(ee_ tu ((hz.mono s7).mono s8)).append (ai_ (fg_ tu ?_) am_);show Is H8 (.t ((bb++[(m:Int)]).map .i)) u;rw [AG];exact hu
    .rintro H6 ⟨s6,zs,hacc,hz⟩;have zl:zs.length=(x+1).toNat:=by rw [hz.length,A1,A1,BI]
     have hlo6:=s6 _ _ hlo5;refine⟨lo,acc,lvs,zs,rfl,rfl,hlo6,hacc,An (ao_ (by lia)),⟨_,rfl⟩,(s5.trans s6).put nloH,by rw [ak_ fl];exact s6 _ _ hfo5,(t5.trans (by_.of_same s6)).trans (by_.upd hlo6),_,ag_, ?_⟩;have tu:by_ H6 (upd H6 lo (.lst (lvs++zs))):=by_.upd hlo6;rw [AG];exact(ee_ tu (hl5.mono s6)).append (ee_ tu hz)
    .rintro σ H R R' k ⟨v1,e1,v2,e2,e3,h⟩;refine⟨v1,e1,v2,e2,e3,fun q H7 nq s7 hq=> ?_⟩;obtain⟨xs,ys,a1,a2,a3,a4⟩:=h q H7 nq s7 hq;exact⟨xs,ys,a1,a2,a3,fun u H8 s8 hu=>k _ _ (a4 u H8 s8 hu)⟩
   .rintro σ H5 ⟨⟨v4,rfl⟩,s5,hfo5,t5,lvs,hlo5,hl5⟩;rw [flen,AW] at hl5;exact⟨_,rfl,⟨lo,_,_,_,rfl,nloH,cq_ hlo5 hl5⟩,s5⟩
  .rintro σ H3 ⟨⟨fo,v2,v3,v4,rfl,nfo,hfo⟩,s3⟩;rw [A1,AW] at hfo;exact⟨_,rfl,kk fo H3 s3 nfo hfo⟩
theorem uv_ {t:List Int}{p:Nat} (h:p<t.length):atI (t.map D.i) (p:Int)=some (.i (t.getD p 0)):=by
 refine tf_ (j:=p) rfl ?_;rw [A9,A3 h,A8,A3 h];rfl
theorem cY_:∀n:Nat,FnOk P w K mg base CX0 (n+2) T.f12 T.d12 ["row","weight","first"] (tM_ n K)
 |0=>⟨fun vs H Q E h=>(by obtain⟨_,_,_,_,_,_,_,_,h,_⟩:=h;lia),fun A outer s H args us vs Q E _ _ _ _ h=>(by obtain⟨_,_,_,_,_,_,_,_,h,_⟩:=h;lia)⟩
 |n+1=>by
  have ih:=cY_ n;refine T.X12.F.ok br_ (fun vs H Q E h=> ?_) (fun cdv A outer s H vs Q E hr h=> ?_)
  .obtain⟨_,_,_,_,rfl,_⟩:=h;rfl
  .obtain⟨v,t,wt,fi,rfl,hv,tn,tl,hm,n8,b1,b2,b3,b4,f5,kk⟩:=h;refine⟨_,(ac_ (ar_ (i:=3) br_.nd rfl (by trivial) (al_ aH_ (pv 1) (ah_ (cZ_ T) (hr.mono (by lia)) (by rfl) T.X6.m T.X6.F.kp T.X6.B .nil aq_ (aa_ (pv 0) ab_))))
   (ac_ (bl_ (aF_ iS_ (pv 3) ae_ (aL_ _)) (ad_ (ap_ (au_ (aa_ (pv 0) ab_)))) aB_)
   (ac_ (ar_ (i:=4) br_.nd rfl (by trivial) (au_ ab_))
   (ac_ (aD_ AQ rfl (bv_ (by rfl) T.n_range (aa_ (pv 2) (aa_ (az_ (nk_ rfl) (by rfl) T.n_min boot_min (aa_ (az_ nm_ (by rfl) T.n_len boot_len (aa_ (pv 0) ab_)) (aa_ (pv 3) ab_))) ab_))) (aj_ (i:=5) br_.nd rfl (by trivial)) (ad_ (aG_ (cT_ Ac C7 C6 cI_ (pv 4) (aa_ (ah_ ih hr (by rfl) T.X12.m T.X12.F.kp T.X12.B .nil aq_ (aa_ (ah_ (bw_ T) (hr.mono (by lia)) (by rfl) T.X8.m T.X8.F.kp T.X8.B .nil aq_ (aa_ (pv 0) (aa_ (pv 5) (aa_ ae_ ab_)))) (aa_ (pv 1) (aa_ (pv 5) ab_)))) ab_)))))
   (ad_ (ap_ (pv 4))))))), ?_⟩
   refine⟨_,rfl,_,rfl,v,t,rfl,hv,tl,fun H1 s1=>⟨_,_,rfl,rfl, ?_⟩⟩;unfold rbF at kk;refine⟨_,rfl,rfl,_,rfl,qG_ (fun e=> ?_) (fun e=> ?_)⟩
   .rw [A7 (show wt-wtF t=0 by lia)] at kk;refine⟨_,rfl,(by show 1<=sizeLine;decide),fun l H2 nl s2 hl=> ?_⟩;exact kk l H2 (s1.trans s2) (s1.free nl) (cq_ hl (ai_ (hv.mono (s1.trans s2)) am_))
   .have e:¬wt-wtF t=0:=by lia
    rw [A5 e] at kk;refine⟨AM _,fun fo H2 nfo s2 hfo=> ?_⟩;have s02:=s1.trans s2;have nfoH:H fo=none:=s1.free nfo;refine⟨_,rfl,_,rfl,_,_,rfl, .inr (hv.mono s02),_,rfl,_,_,rfl, ?_⟩;generalize hM:(if wt-wtF t<(((t.map D.i).length:Nat):Int) then wt-wtF t else(((t.map D.i).length:Nat):Int))=M;have eM:M<=5/\-2000<=M/\(M-(fi:Int)).toNat=min t.length (wt-wtF t).toNat-fi:=by
     rw [A1] at hM;subst hM;split<;>lia
    refine⟨_,_,rfl,⟨by lia,by lia,by lia,by lia⟩, ?_⟩;rw [eM.2.2];have len5:∀i,i<=5->((List.range i).flatMap fun j=>rbF n (wmF t (fi+j) 1) wt (fi+j)).length<=i*5^n:=by
     intro i;induction i with
     |zero=>intro _;exact AM _
     |succ i ih2=>
      intro hi;rw [Au,B0,AC,CP,BD,CS,Av];have:=ih2 (by lia);have:=l0_ (n:=n) (wt:=wt) (row:=wmF t (fi+i) 1) (first:=fi+i) (by rw [cV_];exact tl);lia
    have p5:5^n<=5^7:=CK (by decide) (by lia);refine aU_ (lo:=(fi:Int)) (n:=min t.length (wt-wtF t).toNat-fi) (fun i σ H3=>(∃v5,σ=[some v,some (.int wt),some (.int fi),some (.int (wt-wtF t)),some (.ref fo),v5])/\an_ H H3/\∃zs,H3 fo=some (.lst zs)/\Iss H3 (((List.range i).flatMap fun j=>rbF n (wmF t (fi+j) 1) wt (fi+j)).map tI) zs) ⟨⟨none,rfl⟩,s02,[],hfo,am_⟩ ?_ ?_
    .rintro i σ H3 hi ⟨⟨v5,rfl⟩,s3,zs,hfo3,hz⟩;have hp:fi+i<t.length:=by lia
     have ew:wtF (wmF t (fi+i) 1)=wtF t+(1+((fi+i:Nat):Int))*1:=jp_ hp;rw [show(fi:Int)+(i:Int)=((fi+i:Nat):Int) by lia];refine⟨_,rfl, .inl ⟨rfl,_,SqL.of hfo3⟩,_,rfl,_,rfl,v,t,fi+i,1,rfl,hv.mono s3,hp,tl,fun u H4 s4 hu=> ?_⟩;refine⟨_,rfl,_,rfl,u,wmF t (fi+i) 1,wt,fi+i,rfl,hu,oj_ hp tn (by have:=tn (fi+i);lia),by rw [cV_];exact tl,by rw [ew];lia,by lia,b1,b2,by rw [ew];lia,by rw [ew];lia,by lia,fun rl H5 s5 nrl hrl=> ?_⟩;obtain⟨_,rvs,e,hrl5,hri⟩:=bT_ hrl;cases e;have s35:=s4.trans s5;have hfo5:=s35 _ _ hfo3;have l1:=len5 (i+1) (by lia);have nx:((List.range (i+1)).flatMap fun j=>rbF n (wmF t (fi+j) 1) wt (fi+j))=((List.range i).flatMap fun j=>rbF n (wmF t (fi+j) 1) wt (fi+j))++rbF n (wmF t (fi+i) 1) wt (fi+i):=by
      rw [Au,B0,BD,CS,Av]
     rw [nx] at l1⊢;rw [AC] at l1;have l5:(i+1)*5^n<=5*5^7:=Nat.mul_le_mul (by lia) p5;have d5:5*5^7=390625:=by decide
     have zl:=hz.length;have rl':=hri.length;rw [A1] at zl rl';generalize ((List.range i).flatMap fun j=>rbF n (wmF t (fi+j) 1) wt (fi+j))=R at hz l1 zl;generalize rbF n (wmF t (fi+i) 1) wt (fi+i)=R2 at hri l1 rl';refine⟨fo,rl,zs,rvs,rfl,rfl,hfo5,hrl5,An (op_ (by lia)),⟨_,rfl⟩,(s3.trans s35).put nfoH,_,ag_, ?_⟩;have tu:by_ H5 (upd H5 fo (.lst (zs++rvs))):=by_.upd hfo5;rw [AG];exact(ee_ tu (hz.mono s35)).append (ee_ tu hri)
    .rintro σ H3 ⟨⟨v5,rfl⟩,s3,zs,hfo3,hz⟩;exact⟨_,rfl,kk fo H3 s3 nfoH (cq_ hfo3 hz)⟩
theorem oN_ {a b:List Int} (h:Le a b):∀{i:Nat}{x y:Int},b[i]? =some x->a[i]? =some y->io_ (b.take (i+1)) (a.take (i+1))=io_ (b.take i) (a.take i)*chF x y.toNat:=by
 induction a generalizing b with
 |nil=>intro i x y _ hy;simp at hy
 |cons z a ih=>
  cases b with
  |nil=>exact h.elim
  |cons u b=>
   intro i x y hx hy;cases i with
   |zero=>
    have e1:u=x:=by simpa using hx
    have e2:z=y:=by simpa using hy
    subst e1 e2;simp [io_]
   |succ i=>
    rw [BR,BR,BR,BR];show chF u z.toNat*io_ (b.take (i+1)) (a.take (i+1))=chF u z.toNat*io_ (b.take i) (a.take i)*_;rw [ih h.2.2 (by simpa using hx) (by simpa using hy),Int.mul_assoc]
theorem sn_ {a b:List Int} (h:Le a b):∀{i:Nat}{x y:Int},b[i]? =some x->a[i]? =some y->0<=y/\y<=x:=by
 induction a generalizing b with
 |nil=>intro i x y _ hy;simp at hy
 |cons z a ih=>
  cases b with
  |nil=>exact h.elim
  |cons u b=>
   intro i x y hx hy;cases i with
   |zero=>
    have e1:u=x:=by simpa using hx
    have e2:z=y:=by simpa using hy
    subst e1 e2;exact⟨h.1,h.2.1⟩
   |succ i=>exact ih h.2.2 (by simpa using hx) (by simpa using hy)
theorem if_ {b:List Int}{i:Nat}{x:Int} (h:Nn b) (hx:b[i]? =some x):x<=b.sum:=by
 induction b generalizing i with
 |nil=>simp at hx
 |cons y b ih=>
  obtain⟨p,q⟩:=Nn.cons.mp h;have s0:=(ci_ (i:=1) (by decide) q).1;rw [Aj];cases i with
  |zero=>
   have e1:y=x:=by simpa using hx
   lia
  |succ i=>
   have:=ih q (by simpa using hx);lia
theorem fD_:FnOk P w K mg base CX0 2 T.f13 T.d13 ["row","chosen"] (t0_ K):=by
 refine T.X13.F.ok b5_ (fun vs H Q E h=> ?_) (fun cdv A outer s H vs Q E hr h=> ?_)
 .obtain⟨_,_,_,_,rfl,_⟩:=h;rfl
 .obtain⟨v1,v2,b,a,rfl,hv1,hv2,le,bs,kk⟩:=h;refine⟨_,(ac_ (ar_ (i:=2) b5_.nd rfl (by trivial) ae_)
   (ac_ (aD_ AQ rfl (p8_ (by rfl) T.n_zip (aa_ (pv 0) (aa_ (pv 1) ab_))) (cn_ rfl (as_ (aj_ (i:=3) b5_.nd rfl (by trivial)) (as_ (aj_ (i:=4) b5_.nd rfl (by trivial)) bd_))) (ad_ (jF_ (i:=2) b5_.nd rfl (by trivial) (ah_ (eS_ T) (hr.mono (by decide)) (by rfl) T.X4.m T.X4.F.kp T.X4.B .nil aq_ (aa_ (pv 3) (aa_ (pv 4) ab_))) jb_)))
   (ad_ (ap_ (pv 2))))), ?_⟩
  obtain⟨ba,rfl,hb⟩:=bS_ hv1;obtain⟨aa,rfl,ha⟩:=bS_ hv2;have ll:=le.len;refine⟨_,rfl,_,rfl,ba,aa,rfl,⟨_,SqT.of hb⟩,⟨_,SqT.of ha⟩,oD_ (xs:=b.map V.int) (ys:=a.map V.int) (by rw [A1,A1,ll]) (fun i σ H2=>(∃v3 v4,σ=[some (.ref ba),some (.ref aa),some (.int (io_ (b.take i) (a.take i))),v3,v4])/\an_ H H2) ⟨⟨none,none,rfl⟩,an_.refl _⟩ (fun i σ H2 _ h=>⟨SqT.of (h.2 _ _ hb),SqT.of (h.2 _ _ ha)⟩) ?_ ?_⟩
  .rintro i x y σ H2 p hx hy ⟨⟨v3,v4,rfl⟩,s2⟩ np;rw [A9] at hx hy;obtain⟨x,hx1,rfl⟩:=A4.mp hx;obtain⟨y,hy1,rfl⟩:=A4.mp hy;have hx:=hx1;have hy:=hy1;obtain⟨y0,yx⟩:=sn_ le hx hy;have x5:=if_ (Le.nn le).2 hx;have s3:an_ H2 (upd H2 p (.tup [.int x, .int y])):=an_.new np;refine⟨p,_,rfl,SqT.of ag_,rfl,_,_,rfl,_,_,rfl,rfl, ?_⟩;obtain⟨c0,c1⟩:=pB_ y0 yx (by lia);have c2:(2:Int)^x.toNat<=2^5:=by
    have:x.toNat=0\/x.toNat=1\/x.toNat=2\/x.toNat=3\/x.toNat=4\/x.toNat=5:=by lia
    rcases this with e|e|e|e|e|e<;>rw [e]<;>decide
   have d5:(2:Int)^5=32:=by decide
   refine⟨_,rfl,_,rfl,_,rfl,x,y.toNat, ?_,by lia,by lia, ?_⟩
   .show [V.int x,V.int y]=[V.int x,V.int ((y.toNat:Nat):Int)];rw [show((y.toNat:Nat):Int)=y by lia]
   refine⟨_,_,rfl,rfl, .inr ⟨by lia,by lia⟩,⟨some (.int x),some (.int y), ?_⟩,s2.trans s3⟩;rw [oN_ le hx hy];rfl
  .rintro σ H2 ⟨⟨v3,v4,rfl⟩,s2⟩;rw [A1,AW,<-ll,AW];exact⟨_,rfl,kk H2 s2⟩
theorem lp_:∀{a b:List Int},Le a b->∀{k:Int}{i:Nat}{x y:Int},a[i]? =some x->b[i]? =some y->wgG k (a.take (i+1)) (b.take (i+1))=wgG k (a.take i) (b.take i)++List.replicate (y-x).toNat (k+i)
 |[],_,_,k,i,x,y,hx,_=>by simp at hx
 |z::a,[],h,_,_,_,_,_,_=>h.elim
 |z::a,u::b,h,k,i,x,y,hx,hy=>by
  cases i with
  |zero=>
   have e1:z=x:=by simpa using hx
   have e2:u=y:=by simpa using hy
   subst e1 e2;simp [wgG]
  |succ i=>
   rw [BR,BR,BR,BR];show _++wgG (k+1) (a.take (i+1)) (b.take (i+1))=_++wgG (k+1) (a.take i) (b.take i)++_;rw [lp_ h.2.2 (by simpa using hx) (by simpa using hy),BA,show k+1+(i:Int)=k+((i+1:Nat):Int) by lia]
theorem i9_:∀{a b:List Int} (i:Nat),Le a b->Le (a.take i) (b.take i)
 |[],[],i,_=>by rw [List.take_nil];exact trivial
 |x::a,y::b,0,_=>trivial
 |x::a,y::b,i+1,h=>⟨h.1,h.2.1,i9_ i h.2.2⟩
theorem d0_:FnOk P w K mg base CX0 1 T.f14 T.d14 ["row","fuller"] (tE_ K):=by
 refine T.X14.F.ok a4_ (fun vs H Q E h=> ?_) (fun cdv A outer s H vs Q E hr h=> ?_)
 .obtain⟨_,_,_,_,rfl,_⟩:=h;rfl
 .obtain⟨v1,v2,f,fr,rfl,hv1,hv2,le,fl5,fs5,kk⟩:=h;refine⟨_,(ac_ (ar_ (i:=2) a4_.nd rfl (by trivial) (au_ ab_))
   (ac_ (aD_ AQ rfl (f8_ (by rfl) T.n_enumerate (pv 0)) (cn_ rfl (as_ (aj_ (i:=3) a4_.nd rfl (by trivial)) (as_ (aj_ (i:=4) a4_.nd rfl (by trivial)) bd_))) (ad_ (aG_ (cT_ Ac C7 C6 cI_ (pv 2) (aa_ (al_ eQ_ (au_ (aa_ (al_ aE_ (pv 3) ae_) ab_)) (al_ aH_ (bp_ aQ_ (pv 1) (pv 3) (fun _ _=>rfl)) (pv 4))) ab_)))))
   (ad_ (ap_ (pv 2))))), ?_⟩
  obtain⟨fa,rfl,hf⟩:=bS_ hv1;have ll:=le.len;refine⟨AM _,fun fo H1 nfo s1 hfo=> ?_⟩;refine⟨_,rfl,fa,rfl,⟨_,SqT.of (s1 _ _ hf)⟩,hS_ (xs:=f.map V.int) (fun i σ H2=>(∃v3 v4,σ=[some (.ref fa),some v2,some (.ref fo),v3,v4])/\an_ H H2/\H2 fo=some (.lst ((wgG 1 (f.take i) (fr.take i)).map V.int))) ⟨⟨none,none,rfl⟩,s1,hfo⟩ (fun i σ H2 _ h=>SqT.of (h.2.1 _ _ hf)) ?_ ?_⟩
  .rintro i y σ H2 p hi ⟨⟨v3,v4,rfl⟩,s2,hfo2⟩ np;rw [A9] at hi;obtain⟨x,hx,rfl⟩:=A4.mp hi;have il:i<f.length:=(AD.mp hx).1;have s3:an_ H2 (upd H2 p (.tup [.int i, .int x])):=an_.new np;have hy:fr[i]? =some (fr.getD i 0):=by
    rw [A8,A3 (by lia)];rfl
   obtain⟨x0,xy⟩:=sn_ le hy hx;have y5:=if_ (Le.nn le).2 hy;have lb:(wgG 1 (f.take i) (fr.take i)).length<=1000:=by
    have l1:=lq_ (k:=1) (i9_ i le);have l2:=(ci_ (i:=1) (by decide) (Le.nn (i9_ i le)).1).1;have l3:(fr.take i).sum<=fr.sum:=by
     have e:(fr.take i).sum+(fr.drop i).sum=fr.sum:=by rw [<-C0,Cv]
     have nd:Nn (fr.drop i):=fun j=>by
      rw [A8,List.getElem?_drop];have:=(Le.nn le).2 (i+j);rwa [A8] at this
     have:=(ci_ (i:=1) (by decide) nd).1;lia
    lia
   refine⟨p,_,rfl,SqT.of ag_,rfl,_,_,rfl,_,_,rfl,rfl, ?_⟩;have hfo3:=s3 _ _ hfo2;have s03:=s2.trans s3;generalize upd H2 p (.tup [.int i, .int x])=H3 at s3 hfo3 s03;refine⟨_,rfl, .inl ⟨rfl,_,SqL.of hfo3⟩,_,rfl,_,_,rfl,rfl,(by show 1<=sizeLine;decide),fun l1 H4 n1 s4 h1=> ?_⟩;refine⟨_,rfl,_,rfl,fr.map .i,(i:Int),_,(hv2.mono s03).mono s4,rfl,uv_ (by lia),fun u hu=> ?_⟩;rw [do_ hu];refine⟨_,rfl,_,_,rfl,rfl, .i ((i:Int)+1),_,cq_ h1 (ai_ e4_ am_),rfl,by lia,by lia,An (ao_ (by lia)),fun l2 H5 n2 s5 h2=> ?_⟩;rw [<-Cb] at h2;obtain⟨_,e,hl2⟩:=fE_ h2;cases e;have hfo5:=s5 _ _ (s4 _ _ hfo3);refine⟨fo,l2,_,_,rfl,rfl,hfo5,hl2,An (op_ (by rw [A1,A1,BC];lia)),⟨_,_,rfl⟩,((s03.trans s4).trans s5).put nfo, ?_⟩;rw [ag_,lp_ le hx hy,AG,Int.add_comm 1 (i:Int)]
  .rintro σ H2 ⟨⟨v3,v4,rfl⟩,s2,hfo2⟩;rw [A1,AW,ll,AW] at hfo2;exact⟨_,rfl,kk fo H2 s2 nfo (hQ_ hfo2)⟩
theorem em_:FnOk P w K mg base CX0 2 T.f15 T.d15 ["d","k","held","free"] (rE_ k1_):=by
 refine T.X15.F.ok aT_ (fun vs H Q E h=> ?_) (fun cdv A outer s H vs Q E hr h=> ?_)
 .obtain⟨_,_,_,_,rfl,_⟩:=h;rfl
 .obtain⟨v1,v2,q,L,rfl,hv1,hv2,aq,d2,kk⟩:=h;refine⟨_,(ac_ (ar_ (i:=4) aT_.nd rfl (by trivial) (au_ ab_))
   (ac_ (aD_ AQ rfl (f8_ (by rfl) T.n_enumerate (pv 3)) (cn_ rfl (as_ (aj_ (i:=5) aT_.nd rfl (by trivial)) (as_ (aj_ (i:=6) aT_.nd rfl (by trivial)) bd_))) (ad_ (bl_ (aF_ oc_ (pv 6) ae_ (aL_ _)) (ac_ (ar_ (i:=7) aT_.nd rfl (by trivial) (aM_ (aa_ (pv 0) (aa_ (pv 1) (aa_ (ah_ (bw_ T) (hr.mono (by decide)) (by rfl) T.X8.m T.X8.F.kp T.X8.B .nil aq_ (aa_ (pv 2) (aa_ (pv 5) (aa_ ae_ ab_)))) (aa_ (ah_ (bw_ T) (hr.mono (by decide)) (by rfl) T.X8.m T.X8.F.kp T.X8.B .nil aq_ (aa_ (pv 3) (aa_ (pv 5) (aa_ (r2_ oX_ ae_) ab_)))) ab_))))))
   (ad_ (aG_ (cT_ Ac B8 B7 a1_ (pv 4) (aa_ (aM_ (aa_ ae_ (aa_ (au_ (aa_ (al_ aE_ (pv 5) ae_) ab_)) (aa_ (pv 7) ab_)))) ab_))))) aB_)))
   (ad_ (ap_ (pv 4))))), ?_⟩
  obtain⟨fa,rfl,hf⟩:=bS_ hv2;have hl:=aq.hl;have fl:=aq.fl;have L5:=aq.L5;refine⟨AM _,fun fo H1 nfo s1 hfo=> ?_⟩;refine⟨_,rfl,fa,rfl,⟨_,SqT.of (s1 _ _ hf)⟩,hS_ (xs:=q.f.map V.int) (fun i σ H2=>(∃v5 v6 v7,σ=[some (.int q.d),some (.int q.k),some v1,some (.ref fa),some (.ref fo),v5,v6,v7])/\an_ H H2/\Acc H H2 fo (((List.range i).flatMap (mU_ q)).map smD)/\((List.range i).flatMap (mU_ q)).length<=i) ⟨⟨none,none,none,rfl⟩,s1,Acc.start hfo,AA _⟩ (fun i σ H2 _ h=>SqT.of (h.2.1 _ _ hf)) ?_ ?_⟩
  .rintro i y σ H2 p hi ⟨⟨v5,v6,v7,rfl⟩,s2,⟨zs,hfo2,hz⟩,pl⟩ np;rw [A9] at hi;obtain⟨x,hx,rfl⟩:=A4.mp hi;have il:i<q.f.length:=(AD.mp hx).1;have ex:q.f.getD i 0=x:=by rw [A8,hx];rfl
   have s3:an_ H2 (upd H2 p (.tup [.int i, .int x])):=an_.new np;have nx:(List.range (i+1)).flatMap (mU_ q)=(List.range i).flatMap (mU_ q)++mU_ q i:=by
    rw [Au,B0,BD,CS,Av]
   rw [nx];have zl:=hz.length;rw [A1] at zl;generalize (List.range i).flatMap (mU_ q)=R at hz pl zl;refine⟨p,_,rfl,SqT.of ag_,rfl,_,_,rfl,_,_,rfl,rfl, ?_⟩;generalize upd H2 p (.tup [.int i, .int x])=H3 at s3;have s03:=s2.trans s3;refine⟨_,rfl,_,_,rfl,rfl,_,rfl,hP_ (fun hg=> ?_) (fun hg=> ?_)⟩
   .have hg:x>0:=hg;unfold mU_;rw [ex,A7 hg];refine⟨_,rfl,_,rfl,_,rfl,_,rfl,v1,q.h,i,1,rfl,hv1.mono s03,by lia,by lia,fun u1 H4 s4 hu1=> ?_⟩;refine⟨_,rfl,_,rfl,1,rfl, .ref fa,q.f,i,-1,rfl,(hv2.mono s03).mono s4,il,by lia,fun u2 H5 s5 hu2=>⟨(by show 4<=sizeLine;decide),fun t6 H6 n6 s6 h6=> ?_⟩⟩;have hq6:Is H6 (qD ⟨q.d,q.k,wmF q.h i 1,wmF q.f i (-1)⟩) (.ref t6):=gX_ h6 (ai_ e4_ (ai_ e4_ (ai_ ((hu1.mono s5).mono s6) (ai_ (hu2.mono s6) am_))));have s26:=((s3.trans s4).trans s5).trans s6;refine⟨_,rfl, .inl ⟨rfl,_,SqL.of (s26 _ _ hfo2)⟩,_,rfl,_,_,rfl,rfl,(by show 1<=sizeLine;decide),fun l7 H7 n7 s7 h7=>⟨_,rfl,(by show 3<=sizeLine;decide),fun t8 H8 n8 s8 h8=> ?_⟩⟩;have s28:=(s26.trans s7).trans s8;refine⟨fo,zs,_,rfl,rfl,s28 _ _ hfo2,ao_ (by lia),⟨_,_,_,rfl⟩,(s2.trans s28).put nfo, ?_,by rw [AC];show _+1<=_;lia⟩;rw [AG];refine Acc.add s2 s28 hfo2 hz ?_;refine gX_ (jL_ s28 h8) (ai_ e4_ (ai_ (pd_ (s26.free n7) (hQ_ (t:=[(i:Int)+1]) (s8 _ _ h7))) (ai_ (uA_ (se_ s28) ((hq6.mono s7).mono s8)) am_)))
   .have hg:¬x>0:=hg;unfold mU_;rw [ex,A5 hg,Av];exact⟨⟨_,_,_,rfl⟩,s03,Acc.mono s3 ⟨zs,hfo2,hz⟩,by lia⟩
  .rintro σ H2 ⟨⟨v5,v6,v7,rfl⟩,s2,hacc,_⟩;rw [A1] at hacc;exact⟨_,rfl,kk fo H2 s2 nfo (hacc.is nfo)⟩
theorem sZ_ {n:Nat} (h:n<=12600000):n<sizeLine:=by rw [Aw];lia
theorem mY_ {q:Ask4} (hl:q.f.length<=5):∀(F:List (List Int)),(F.flatMap (m0_ q)).length<=F.length*390625
 |[]=>AM _
 |x::F=>by
  rw [BD,AC,AY,CP];have h1:=mY_ hl F;have h2:=l0_ (n:=8) (wt:=q.d-1-wtF x) (row:=q.f) (first:=0) hl;have:(m0_ q x).length<=390625:=by unfold m0_;rw [A1];exact h2
  lia
theorem b6_:FnOk P w K mg base CX0 11 T.f16 T.d16 ["d","k","held","free"] (rE_ rf_):=by
 refine T.X16.F.ok ax_ (fun vs H Q E h=> ?_) (fun cdv A outer s H vs Q E hr h=> ?_)
 .obtain⟨_,_,_,_,rfl,_⟩:=h;rfl
 .obtain⟨v1,v2,q,L,rfl,hv1,hv2,aq,d2,kk⟩:=h;refine⟨_,(ac_ (ar_ (i:=4) ax_.nd rfl (by trivial) (au_ ab_))
   (ac_ (aD_ AQ rfl (aP_ (ah_ (fl_ T) (hr.mono (by decide)) (by rfl) T.X11.m T.X11.F.kp T.X11.B .nil aq_ (aa_ (pv 2) ab_))) (aj_ (i:=5) ax_.nd rfl (by trivial)) (ad_ (aD_ AQ rfl (aP_ (ah_ (cY_ T 8) (hr.mono (by decide)) (by rfl) T.X12.m T.X12.F.kp T.X12.B .nil aq_ (aa_ (pv 3) (aa_ (al_ aH_ (al_ aH_ (pv 0) ae_) (ah_ (cZ_ T) (hr.mono (by decide)) (by rfl) T.X6.m T.X6.F.kp T.X6.B .nil aq_ (aa_ (pv 5) ab_))) (aa_ ae_ ab_))))) (aj_ (i:=6) ax_.nd rfl (by trivial)) (ac_ (ar_ (i:=7) ax_.nd rfl (by trivial) (aM_ (aa_ (al_ aH_ (pv 0) ae_) (aa_ (al_ aE_ (al_ aH_ (al_ aH_ (al_ aE_ (pv 1) (az_ (h7_ rfl) (by rfl) T.n_sum boot_sum (aa_ (pv 6) ab_))) (az_ (h7_ rfl) (by rfl) T.n_sum boot_sum (aa_ (pv 3) ab_))) (pv 0)) ae_) (aa_ (pv 5) (aa_ (pv 6) ab_))))))
   (ad_ (aG_ (cT_ Ac B8 B7 a1_ (pv 4) (aa_ (aM_ (aa_ (al_ ba_ (ah_ (fD_ T) (hr.mono (by decide)) (by rfl) T.X13.m T.X13.F.kp T.X13.B .nil aq_ (aa_ (pv 2) (aa_ (pv 5) ab_))) (ah_ (fD_ T) (hr.mono (by decide)) (by rfl) T.X13.m T.X13.F.kp T.X13.B .nil aq_ (aa_ (pv 6) (aa_ (pv 3) ab_)))) (aa_ (ah_ (d0_ T) (hr.mono (by decide)) (by rfl) T.X14.m T.X14.F.kp T.X14.B .nil aq_ (aa_ (pv 3) (aa_ (pv 6) ab_))) (aa_ (pv 7) ab_)))) ab_))))))))
   (ad_ (ap_ (pv 4))))), ?_⟩
  obtain⟨fa,rfl,hf⟩:=bS_ hv2;have hl:=aq.hl;have fl:=aq.fl;have L5:=aq.L5;have sm:=aq.sums;have dL:=aq.dL;have wq:=aq.wt;have wh:=cr_ (i:=1) (by decide) aq.hn;have wf:=cr_ (i:=1) (by decide) aq.fn;refine⟨AM _,fun fo H1 nfo s1 hfo=> ?_⟩;refine⟨_,rfl,v1,q.h,rfl,hv1.mono s1,aq.hn,by lia,by lia,fun kl H2 s2 nkl hkl=> ?_⟩;have s02:=s1.trans s2;obtain⟨_,kvs,e,hkl2,hki⟩:=bT_ hkl;cases e;have klen:kvs.length=(rwF q.h).length:=by rw [hki.length,A1]
  have k32:(rwF q.h).length<=32:=by have:=lP_ aq.hn (by lia) q.h.length;rwa [AW] at this
  have kfo:kl≠fo:=by rintro rfl;rw [hfo] at nkl;cases nkl
  unfold rf_ at kk;refine⟨kl,rfl,⟨_,SqL.of hkl2⟩,aO_ (xs:=kvs) (fun i σ H3=>(∃v5 v6 v7,σ=[some (.int q.d),some (.int q.k),some v1,some (.ref fa),some (.ref fo),v5,v6,v7])/\an_ H H3/\H3 kl=some (.lst kvs)/\by_ H2 H3/\Acc H H3 fo ((((rwF q.h).take i).flatMap (m0_ q)).map smD)) ⟨⟨none,none,none,rfl⟩,s02,hkl2,by_.of_same (an_.refl _),(Acc.start hfo).mono s2⟩ (fun i σ H3 _ h=>SqL.of h.2.2.1) ?_ ?_⟩
  .rintro i y σ H3 hi ⟨⟨v5,v6,v7,rfl⟩,s3,hkl3,t3,⟨zs,hfo3,hz⟩⟩;obtain⟨dd,hdd,hy⟩:=hki.of_get hi;rw [A9] at hdd;obtain⟨kp,hkp,rfl⟩:=A4.mp hdd;have il:i<(rwF q.h).length:=(AD.mp hkp).1;have kmem:=AU hkp;have lk:=lO_ aq.hn kmem;have wk0:=cr_ (i:=1) (by decide) (Le.nn lk).1;have wk1:=lk.wt (i:=1) (by decide);have nx:((rwF q.h).take (i+1)).flatMap (m0_ q)=((rwF q.h).take i).flatMap (m0_ q)++m0_ q kp:=by
    rw [AZ,hkp,B0];simp
   have bnd:=mY_ (q:=q) (by lia) ((rwF q.h).take (i+1));rw [nx] at bnd⊢;rw [AC,B4] at bnd;have zl:=hz.length;rw [A1] at zl;generalize ((rwF q.h).take i).flatMap (m0_ q)=R at hz bnd zl;have hy3:Is H3 (tI kp) y:=fg_ t3 hy;refine⟨_,rfl,_,rfl,_,_,rfl,rfl,_,rfl,y,kp,rfl,hy3,by have:=lk.len;lia,fun H4 s4=>⟨_,_,rfl,rfl, ?_⟩⟩;have s04:=s3.trans s4;unfold m0_ at bnd⊢;rw [A1] at bnd;have few:∀fr∈rbF 8 q.f (q.d-1-wtF kp) 0,AskOk L ⟨q.d-1,q.k+fr.sum-q.f.sum-q.d+1,kp,fr⟩/\6*(q.d-1)+fr.sum+1<=muF q/\Le kp q.h/\Le q.f fr/\fr.sum<=5:=fun fr hfr=>aq.few d2 kmem hfr;refine⟨.ref fa,q.f,q.d-1-wtF kp,0,rfl,hv2.mono s04,aq.fn,by lia,by unfold wtF at*;lia,by decide,by unfold wtF at*;lia,by unfold wtF at*;lia,by unfold wtF at*;lia,by unfold wtF at*;lia,by decide,fun rl H5 s5 nrl hrl=> ?_⟩;obtain⟨_,rvs,e,hrl5,hri⟩:=bT_ hrl;cases e;have rlen:rvs.length=(rbF 8 q.f (q.d-1-wtF kp) 0).length:=by rw [hri.length,A1]
   have s35:=s4.trans s5;have hfo5:=s35 _ _ hfo3;have rfo:rl≠fo:=by rintro rfl;rw [s4 _ _ hfo3] at nrl;cases nrl
   have rkl:kl≠rl:=by rintro rfl;rw [s4 _ _ hkl3] at nrl;cases nrl
   generalize rbF 8 q.f (q.d-1-wtF kp) 0=O at hri few rlen bnd;refine⟨rl,rfl,⟨_,SqL.of hrl5⟩,aO_ (xs:=rvs) (fun j σ H6=>(∃v6 v7,σ=[some (.int q.d),some (.int q.k),some v1,some (.ref fa),some (.ref fo),some y,v6,v7])/\an_ H H6/\H6 kl=some (.lst kvs)/\H6 rl=some (.lst rvs)/\by_ H5 H6/\Acc H H6 fo ((R++(O.take j).map (rg_ q kp)).map smD)) ⟨⟨_,_,rfl⟩,s3.trans s35,s35 _ _ hkl3,hrl5,by_.of_same (an_.refl _),by simpa using Acc.mono s35 ⟨zs,hfo3,hz⟩⟩ (fun j σ H6 _ h=>SqL.of h.2.2.2.1) ?_ ?_⟩
   .rintro j b σ H6 hj ⟨⟨v6,v7,rfl⟩,s6,hkl6,hrl6,t6,⟨ws,hfo6,hw⟩⟩;obtain⟨dd,hdd,hb⟩:=hri.of_get hj;rw [A9] at hdd;obtain⟨fr,hfr,rfl⟩:=A4.mp hdd;have jl:j<O.length:=(AD.mp hfr).1;obtain⟨f1,f2,f3,f4,f5⟩:=few fr (AU hfr);have hb6:Is H6 (tI fr) b:=fg_ t6 hb;have hy6:Is H6 (tI kp) y:=fg_ t6 (hy3.mono s35);have wl:=hw.length;rw [A1,AC,A1,B4] at wl;have nx2:(O.take (j+1)).map (rg_ q kp)=(O.take j).map (rg_ q kp)++[rg_ q kp fr]:=by
     rw [AZ,hfr,AG];rfl
    rw [nx2,<-BA,AG];obtain⟨ba,rfl,hba⟩:=bS_ hb6;refine⟨_,rfl,_,_,rfl,rfl,_,rfl,_,rfl,ba,fr,rfl,SqT.of hba,_,_,rfl,rfl,_,rfl,fa,q.f,rfl,SqT.of (s6 _ _ hf),_,_,rfl,rfl,_,rfl,_,_,rfl,rfl,_,_,rfl,rfl,_,rfl,_,rfl,(by show 4<=sizeLine;decide),fun t7 H7 n7 s7 h7=> ?_⟩;have hq7:Is H7 (qD ⟨q.d-1,q.k+fr.sum-q.f.sum-q.d+1,kp,fr⟩) (.ref t7):=gX_ h7 (ai_ e4_ (ai_ e4_ (ai_ (hy6.mono s7) (ai_ (hb6.mono s7) am_))));have s07:=s6.trans s7;refine⟨_,rfl, .inl ⟨rfl,_,SqL.of (s7 _ _ hfo6)⟩,_,rfl,_,rfl,v1,y,q.h,kp,rfl,hv1.mono s07,hy6.mono s7,f3,by lia,fun H8 s8=> ?_⟩;refine⟨_,rfl,_,rfl, .ref ba, .ref fa,fr,q.f,rfl,(hb6.mono s7).mono s8,(hv2.mono s07).mono s8,f4,f5,fun H9 s9=> ?_⟩;have c1:=ku_ f3 (by lia);have c2:=ku_ f4 f5;refine⟨_,_,rfl,rfl, .inl ⟨by lia,by lia⟩,_,rfl,_,rfl, .ref fa, .ref ba,q.f,fr,rfl,((hv2.mono s07).mono s8).mono s9,((hb6.mono s7).mono s8).mono s9,f4,by have:=f4.len;lia,f5,fun l10 H10 s10 n10 h10=> ?_⟩;refine⟨_,rfl,(by show 3<=sizeLine;decide),fun t11 H11 n11 s11 h11=> ?_⟩;have s610:=((s7.trans s8).trans s9).trans s10;have s611:=s610.trans s11;have n10':H6 l10=none:=((s7.trans s8).trans s9).free n10;refine⟨fo,ws,_,rfl,rfl,s611 _ _ hfo6,sZ_ (by lia),⟨_,_,rfl⟩,(s6.trans s611).put nfo,by rw [ak_ kfo];exact s611 _ _ hkl6,by rw [ak_ rfo];exact s611 _ _ hrl6,(t6.trans (by_.of_same s611)).trans (by_.upd (s611 _ _ hfo6)), ?_⟩;refine Acc.add s6 s611 hfo6 hw ?_;refine gX_ (jL_ s611 h11) (ai_ e4_ (ai_ (pd_ n10' (h10.mono s11)) (ai_ (uA_ (se_ s611) ((((hq7.mono s8).mono s9).mono s10).mono s11)) am_)))
   .rintro σ H6 ⟨⟨v6,v7,rfl⟩,s6,hkl6,hrl6,t6,hacc⟩;rw [rlen,AW] at hacc;exact⟨⟨_,_,_,rfl⟩,s6,hkl6,(t3.trans (by_.of_same s35)).trans t6,hacc⟩
  .rintro σ H3 ⟨⟨v5,v6,v7,rfl⟩,s3,hkl3,t3,hacc⟩;rw [klen,AW] at hacc;exact⟨_,rfl,kk fo H3 s3 nfo (hacc.is nfo)⟩
theorem lC_ {L:Nat}{q:Ask4} (a:AskOk L q):(k1_ q).length<=5/\(rf_ q).length<=12500000:=by
 have h5:=a.L5;have fl:=a.fl;have k32:(rwF q.h).length<=32:=by have:=lP_ a.hn a.sums.2.1 q.h.length;rwa [AW] at this
 refine⟨?_,B6 (mY_ (by lia) _) (by lia)⟩;unfold k1_;refine B6 (e6_ (m:=1) fun p _=> ?_) (by rw [BI];lia);unfold mU_;split<;>simp
theorem iV_:FnOk P w K mg base CX0 12 T.f17 T.d17 ["asked"] (tI_ K):=by
 refine T.X17.F.ok bM_ (fun vs H Q E h=> ?_) (fun cdv A outer s H vs Q E hr h=> ?_)
 .obtain⟨_,_,_,rfl,_⟩:=h;rfl
 .obtain⟨v,q,L,rfl,hv,aq,d2,kk⟩:=h;refine⟨_,(ac_ (ar_ (i:=1) bM_.nd rfl (by trivial) (bp_ aQ_ (pv 0) ae_ (fun _ _=>rfl)))
   (ac_ (ar_ (i:=2) bM_.nd rfl (by trivial) (bp_ aQ_ (pv 0) ae_ (fun _ _=>rfl)))
   (ac_ (ar_ (i:=3) bM_.nd rfl (by trivial) (bp_ aQ_ (pv 0) ae_ (fun _ _=>rfl)))
   (ac_ (ar_ (i:=4) bM_.nd rfl (by trivial) (bp_ aQ_ (pv 0) ae_ (fun _ _=>rfl)))
   (ad_ (ap_ (al_ pc_ (ah_ (em_ T) (hr.mono (by decide)) (by rfl) T.X15.m T.X15.F.kp T.X15.B .nil aq_ (aa_ (pv 1) (aa_ (pv 2) (aa_ (pv 3) (aa_ (pv 4) ab_))))) (ah_ (b6_ T) (hr.mono (by decide)) (by rfl) T.X16.m T.X16.F.kp T.X16.B .nil aq_ (aa_ (pv 1) (aa_ (pv 2) (aa_ (pv 3) (aa_ (pv 4) ab_)))))))))))), ?_⟩
  refine⟨_,rfl,_,0,_,hv,rfl,rfl,fun u1 k1=> ?_⟩;rw [do_ k1];refine⟨_,rfl,_,1,_,hv,rfl,rfl,fun u2 k2=> ?_⟩;rw [do_ k2];refine⟨_,rfl,_,2,_,hv,rfl,rfl,fun u3 k3=> ?_⟩;refine⟨_,rfl,_,3,_,hv,rfl,rfl,fun u4 k4=> ?_⟩;refine⟨_,rfl,_,rfl,_,rfl,_,rfl,u3,u4,q,L,rfl,k3,k4,aq,d2,fun l1 H1 s1 n1 h1=> ?_⟩;refine⟨_,rfl,_,rfl,_,rfl,_,rfl,u3,u4,q,L,rfl,k3.mono s1,k4.mono s1,aq,d2,fun l2 H2 s2 n2 h2=> ?_⟩;obtain⟨_,xs,e,g1,i1⟩:=bT_ h1;cases e;obtain⟨_,zs,e,g2,i2⟩:=bT_ h2;cases e;have hl1:H2 l1=some (.lst xs):=s2 _ _ (bg_ _ _ g1);have hl2:H2 l2=some (.lst zs):=bg_ _ _ g2;have sl:=lC_ aq;have xl:=i1.length;have zl:=i2.length;rw [A1] at xl zl;refine⟨l1,l2,xs,zs,rfl,rfl,hl1,hl2,An (sZ_ (by lia)),fun p np=> ?_⟩;have s3:an_ H2 (upd H2 p (.lst (xs++zs))):=an_.new np;have hp:upd H2 p (.lst (xs++zs)) p=some (.lst (xs++zs)):=ag_;generalize upd H2 p (.lst (xs++zs))=H3 at s3 hp;have npH:H p=none:=(s1.trans s2).free np;refine kk p H3 ((s1.trans s2).trans s3) npH (cq_ (by rw [cH_ npH];exact hp) ?_);unfold fh_;rw [AG];exact(i1.mono (dh_ (s2.trans s3))).append ((i2.mono (gk_ s1)).mono (dh_ s3))
theorem fC_:∀n:Nat,FnOk P w K mg base CX0 (n+13) T.f18 T.d18 ["asked","known"] (tZ_ P w n)
 |0=>⟨fun vs H Q E h=>(by obtain⟨_,_,_,_,_,_,_,a,h,_⟩:=h;have:=a.mu;lia),fun A outer s H args us vs Q E _ _ _ _ h=>(by obtain⟨_,_,_,_,_,_,_,a,h,_⟩:=h;have:=a.mu;lia)⟩
 |n+1=>by
  have ih:=fC_ n;refine T.X18.F.ok bL_ (fun vs H Q E h=> ?_) (fun cdv A outer s H vs Q E hr h=> ?_)
  .obtain⟨_,_,_,_,_,rfl,_⟩:=h;rfl
  .obtain⟨v,kn,q,L,R,rfl,hv,aq,hn,hD,hK,kk⟩:=h;refine⟨_,(ac_ (bl_ (aF_ ml_ (bp_ aQ_ (pv 0) ae_ (fun _ _=>rfl)) ae_ (aL_ _)) (ad_ (ap_ ae_)) aB_)
   (ac_ (bl_ (aF_ iS_ (bp_ aQ_ (pv 0) ae_ (fun _ _=>rfl)) ae_ (aL_ _)) (ad_ (ap_ (n4_ (aF_ iS_ (bp_ aQ_ (pv 0) ae_ (fun _ _=>rfl)) ae_ (aL_ _)) ae_ ae_))) aB_)
   (ac_ (bl_ (rV_ (mf_ (mQ_ hr) (pv 0) (pv 1)) rfl) (ac_ (ar_ (i:=2) bL_.nd rfl (by trivial) ae_)
   (ac_ (aD_ AQ rfl (aP_ (ah_ (iV_ T) (hr.mono (by lia)) (by rfl) T.X17.m T.X17.F.kp T.X17.B .nil aq_ (aa_ (pv 0) ab_))) (cn_ rfl (as_ (aj_ (i:=3) bL_.nd rfl (by trivial)) (as_ (aj_ (i:=4) bL_.nd rfl (by trivial)) (as_ (aj_ (i:=5) bL_.nd rfl (by trivial)) bd_)))) (ad_ (jF_ (i:=2) bL_.nd rfl (by trivial) (al_ ba_ (al_ ba_ (pv 3) (ah_ (gg_ T) (hr.mono (by lia)) (by rfl) T.X9.m T.X9.F.kp T.X9.B .nil aq_ (aa_ (pv 4) ab_))) (ah_ ih hr (by rfl) T.X18.m T.X18.F.kp T.X18.B .nil aq_ (aa_ (pv 5) (aa_ (pv 1) ab_)))) pm_)))
   (ad_ (p6_ (mQ_ hr) (pv 1) (pv 0) (pv 2) rfl)))) aB_)
   (ad_ (ap_ (qe_ (mQ_ hr) (pv 1) (pv 0) (fun _ _=>rfl))))))), ?_⟩
   refine⟨_,rfl,_,1,_,hv,rfl,rfl,fun u1 k1=> ?_⟩;rw [do_ k1];refine⟨_,_,rfl,rfl,_,rfl,hP_ (fun hz=> ?_) (fun hz=> ?_)⟩
   .have hz:q.k<0:=hz;rw [sV_ hz] at kk;exact kk R H (But.of_same (an_.refl _)) hD hK
   have hz:¬q.k<0:=hz;refine⟨_,rfl,_,0,_,hv,rfl,rfl,fun u2 k2=> ?_⟩;rw [do_ k2];refine⟨rfl,_,rfl,qG_ (fun h1=> ?_) (fun h1=> ?_)⟩
   .rw [sU_ hz h1] at kk;refine⟨_,rfl,_,1,_,hv,rfl,rfl,fun u3 k3=> ?_⟩;rw [do_ k3];refine⟨rfl,_,rfl,qG_ (fun h2=> ?_) (fun h2=> ?_)⟩
    .rw [A7 h2] at kk;exact kk R H (But.of_same (an_.refl _)) hD hK
    .rw [A5 h2] at kk;exact kk R H (But.of_same (an_.refl _)) hD hK
   have d2:2<=q.d:=by have:=aq.d1;lia
   have hk:=qI_ hv;refine⟨_,rfl,_,rfl,kn,tK R,kq q,rfl,hD,hk,_,rfl, ?_⟩;rw [jw_];by_cases hin:kq q∈R.map (·.1)
   .rw [A7 hin];exact gF_ ⟨_,rfl,_,rfl,kn,tK R,kq q, .int (cF q),rfl,hD,hk,by rw [jw_,A7 hin,hK.get hin],kk R H (But.of_same (an_.refl _)) hD hK⟩
   .rw [A5 hin];refine ov_ ?_;refine⟨_,rfl,v,q,L,rfl,hv,aq,d2,fun l0 H2 s2 nl0 hl0=> ?_⟩;have hS:∀x∈fh_ q,AskOk L x.2.2/\muF x.2.2+1<=muF q/\(0<=x.1/\x.1<=1024)/\(∀w∈x.2.1,1<=w/\w<=5)/\x.2.1.length<=5:=fun x hx=>⟨(aq.less d2 hx).1,(aq.less d2 hx).2,nS_ aq d2 hx⟩;have hW:=sT_ aq hz h1;generalize fh_ q=S at hS hW hl0;obtain⟨_,lvs,e,hl0',hli'⟩:=bT_ hl0;cases e;have hl2:H2 l0=some (.lst lvs):=bg_ _ _ hl0';have hli:Iss H2 (S.map smD) lvs:=hli'.mono bg_;have llen:lvs.length=S.length:=by rw [hli.length,A1]
    have hD2:=hD.mono s2;have l0kn:l0≠kn:=by
     obtain⟨_,_,xs,_,e⟩:=hD;rintro rfl;rw [e] at nl0;cases nl0
    refine⟨l0,rfl,⟨_,SqL.of hl2⟩,aO_ (xs:=lvs) (fun i σ H3=>(∃v3 v4 v5,σ=[some v,some (.ref kn),some (.int (((S.take i).map fun x=>x.1*il_ x.2.1*cF x.2.2).sum)),v3,v4,v5])/\But kn H2 H3/\∃R',DM P w H3 kn (tK R')/\KnQ L R') ⟨⟨none,none,none,rfl⟩,But.of_same (an_.refl _),R,hD2,hK⟩ (fun i σ H3 _ h=>SqL.of (h.2.1 _ _ hl2 l0kn)) ?_ ?_⟩
    .rintro i y σ H3 hi ⟨⟨v3,v4,v5,rfl⟩,but3,R3,hD3,hK3⟩;obtain⟨dd,hdd,hy⟩:=hli.of_get hi;rw [A9] at hdd;obtain⟨x,hx',rfl⟩:=A4.mp hdd;obtain⟨x1,x2,x3,x4,x5⟩:=hS x (AU hx');have hx3:Is H3 (smD x) y:=hy.lts (gp_ hD2 but3);obtain⟨t,tvs,rfl,ht,hti⟩:=hs_ hx3;obtain⟨u1,us,rfl,hu1,hti⟩:=aw_ hti;obtain⟨u2,us,rfl,hu2,hti⟩:=aw_ hti;obtain⟨u3,us,rfl,hu3,hti⟩:=aw_ hti;rw [bf_ hti,do_ hu1] at ht;obtain⟨p0,p1⟩:=l7_ x4;have p2:(5:Int)^x.2.1.length<=3125:=by
      have:x.2.1.length=0\/x.2.1.length=1\/x.2.1.length=2\/x.2.1.length=3\/x.2.1.length=4\/x.2.1.length=5:=by lia
      rcases this with e|e|e|e|e|e<;>rw [e]<;>decide
     have m0:=Bs x3.1 p0;have m1:=CN x3.2 (Int.le_trans p1 p2) p0 (by decide);refine⟨t,_,rfl,SqT.of ht,rfl,_,_,rfl,_,_,rfl,_,_,rfl,rfl, ?_⟩;refine⟨_,rfl,_,rfl,_,rfl,u2,x.2.1,rfl,hu2,x4,_,_,rfl,rfl, .inl ⟨by lia,by lia⟩,_,rfl,_,rfl,u3,kn,x.2.2,L,R3,rfl,hu3,x1,by lia,hD3,hK3,fun R4 H4 but4 hD4 hK4=> ?_⟩;refine⟨_,_,rfl,rfl, .inl ⟨by lia,by lia⟩,_,_,rfl,rfl,⟨some (.int x.1),some u2,some u3, ?_⟩,but3.trans but4,R4,hD4,hK4⟩;rw [AZ,hx',AG,C0];simp
    .rintro σ H3 ⟨⟨v3,v4,v5,rfl⟩,but3,R3,hD3,hK3⟩;rw [llen,AW,<-hW];have but03:But kn H H3:=(But.of_same s2).trans but3;have hv3:Is H3 (qD q) v:=(hv.mono s2).lts (gp_ hD2 but3);have hl3:=hK3.len aq.L5;refine⟨_,rfl,_,rfl,_,rfl,kn,tK R3,kq q,rfl,hD3,qI_ hv3,by rw [rv_,Aw];lia,fun H4 hD4 k4=> ?_⟩;rw [oZ_ hK3.1] at hD4;have but4:But kn H3 H4:=fun c o e n=>by rw [k4 c n];exact e
     have hv4:=hv3.lts (gp_ hD3 but4);obtain⟨g1,g2⟩:=kc_ (k:=kq q) (v:=cF q) (R:=R3);exact⟨_,rfl,_,rfl,kn,_,kq q, .int (cF q),rfl,hD4,qI_ hv4,by rw [jw_,A7 g2,g1],kk _ H4 (but03.trans but4) hD4 (hK3.put aq (by lia))⟩
theorem pa_ {a:List Int}{n:Nat} (h:Nn a) (hl:a.length<=n):(hm_ n a).length=n/\Nn (hm_ n a)/\wtF (hm_ n a)=wtF a:=by
 have nr:∀(m:Nat) {t:List Int},Nn t->Nn (t++List.replicate m 0):=fun m=>by
  induction m with
  |zero=>intro t h;simpa using h
  |succ m ih=>intro t h;rw [List.replicate_succ',<-BA];exact qp_ (ih h) (by decide)
 refine⟨?_,nr _ h,rk_⟩;unfold hm_;rw [AC,BC];lia
theorem s0_ {d k:Nat}{a b:List Int} (hw:Wide d k) (ra:ft_ a) (rb:ft_ b) (e:wtF a+wtF b=d) (la:a.length<=d) (lb:b.length<=d):AskOk d ⟨d,k,hm_ d a,hm_ d b⟩:=by
 obtain⟨a1,a2,a3⟩:=pa_ ra.1 la;obtain⟨b1,b2,b3⟩:=pa_ rb.1 lb;unfold Wide at hw;exact⟨a1,b1,a2,b2,by rw [a3,b3];exact e,by show(1:Int)<=(d:Int);lia,Cg _,by lia,by show(k:Int)<=6;lia⟩
theorem iY_:FnOk P w K mg base CX0 4 T.f19 T.d19 ["d","k","held","free"] (t3_ K):=by
 refine T.X19.F.ok iF_ (fun vs H Q E h=> ?_) (fun cdv A outer s H vs Q E hr h=> ?_)
 .obtain⟨_,_,_,_,_,_,rfl,_⟩:=h;rfl
 .obtain⟨d,k,v1,v2,a,b,rfl,hw,h1,h2,ra,rb,e,la,lb,kk⟩:=h;refine⟨_,(ac_ (aG_ (ah_ (cE_ T) (hr.mono (by decide)) (by rfl) T.X2.m T.X2.F.kp T.X2.B .nil aq_ (aa_ (pv 0) (aa_ (pv 1) ab_))))
   (ac_ (aG_ (ah_ (hn_ T) (hr.mono (by decide)) (by rfl) T.X7.m T.X7.F.kp T.X7.B .nil aq_ (aa_ (pv 0) (aa_ (pv 2) (aa_ (pv 3) ab_)))))
   (ad_ (ap_ (aM_ (aa_ (pv 0) (aa_ (pv 1) (aa_ (ah_ (eg_ T) (hr.mono (by decide)) (by rfl) T.X10.m T.X10.F.kp T.X10.B .nil aq_ (aa_ (pv 2) (aa_ (pv 0) ab_))) (aa_ (ah_ (eg_ T) (hr.mono (by decide)) (by rfl) T.X10.m T.X10.F.kp T.X10.B .nil aq_ (aa_ (pv 3) (aa_ (pv 0) ab_))) ab_))))))))), ?_⟩
  have d5:d<=5:=by unfold Wide at hw;lia
  refine⟨_,rfl,_,rfl,d,k,rfl,hw, ?_⟩;refine⟨_,rfl,_,rfl,_,rfl,d,v1,v2,a,b,rfl,h1,h2,ra,rb,e,fun H1 s1=> ?_⟩;refine⟨_,rfl,_,rfl,_,rfl,_,rfl,v1,a,d,rfl,h1.mono s1,la,d5,fun u1 H2 s2 hu1=> ?_⟩;refine⟨_,rfl,_,rfl,v2,b,d,rfl,(h2.mono s1).mono s2,lb,d5,fun u2 H3 s3 hu2=> ?_⟩;refine⟨(by show 4<=sizeLine;decide),fun t H4 nt s4 ht=>kk _ H4 (((s1.trans s2).trans s3).trans s4) ?_⟩;exact gX_ ht (ai_ e4_ (ai_ e4_ (ai_ ((hu1.mono s3).mono s4) (ai_ (hu2.mono s4) am_))))
theorem kU_:FnOk P w K mg base CX0 54 T.f20 T.d20 ["d","k","held","free"] (t2_ K):=by
 refine T.X20.F.ok kL_ (fun vs H Q E h=> ?_) (fun cdv A outer s H vs Q E hr h=> ?_)
 .obtain⟨_,_,_,_,_,_,rfl,_⟩:=h;rfl
 .obtain⟨d,k,v1,v2,a,b,rfl,hw,h1,h2,ra,rb,e,la,lb,kk⟩:=h;refine⟨_,(ad_ (ap_ (ah_ (fC_ T 40) (hr.mono (by decide)) (by rfl) T.X18.m T.X18.F.kp T.X18.B .nil aq_ (aa_ (ah_ (iY_ T) (hr.mono (by decide)) (by rfl) T.X19.m T.X19.F.kp T.X19.B .nil aq_ (aa_ (pv 0) (aa_ (pv 1) (aa_ (pv 2) (aa_ (pv 3) ab_))))) (aa_ qd_ ab_))))), ?_⟩;have aq:=s0_ hw ra rb e la lb;refine⟨_,rfl,_,rfl,_,rfl,_,rfl,d,k,v1,v2,a,b,rfl,hw,h1,h2,ra,rb,e,la,lb,fun u H1 s1 hu=> ?_⟩;intro kn H2 nkn hD k2;have s2:an_ H1 H2:=fun b o e=>by rw [k2 b (by rintro rfl;rw [nkn] at e;cases e)];exact e
  have nknH:H kn=none:=s1.free nkn;refine⟨u,kn,_,d,[],rfl,hu.mono s2,aq,by have:=aq.mu;lia,hD,⟨by simp,fun x hx=>nomatch hx⟩,fun R' H3 but3 hD3 hK3=>kk H3 ?_⟩;exact But.same (s1.trans s2) nknH but3
theorem g2_ {xs:List (List Int)}{j:Nat}{x r:List Int} (h:xs[j]? =some x):r∈xs.take (j+1)↔r∈xs.take j\/r=x:=by
 rw [AZ,h,Bd];simp
theorem hr_:FnOk P w K mg base CX0 1 T.f24 T.d24 ["table","greatest"] (u0_ K):=by
 refine T.X24.F.ok a9_ (fun vs H Q E h=> ?_) (fun cdv A outer s H vs Q E hr h=> ?_)
 .obtain⟨_,_,_,_,_,_,rfl,_⟩:=h;rfl
 .obtain⟨v,q,n,g,F,L,rfl,hv,hL,hF,hq,hgn,hdg,kk⟩:=h;refine⟨_,(ac_ (ar_ (i:=2) a9_.nd rfl (by trivial) jJ_)
   (ac_ (aD_ AQ rfl (bv_ (by rfl) T.n_range (aa_ ae_ (aa_ (al_ aE_ (pv 1) ae_) ab_))) (aj_ (i:=3) a9_.nd rfl (by trivial)) (ad_ (iM_ (en_ hr) (pv 2) (pv 3) jJ_ rfl)))
   (ac_ (aD_ AQ rfl (aP_ (pv 0)) (cn_ rfl (as_ (aj_ (i:=3) a9_.nd rfl (by trivial)) (as_ (aj_ (i:=4) a9_.nd rfl (by trivial)) (as_ (aj_ (i:=5) a9_.nd rfl (by trivial)) bd_)))) (ad_ (bl_ (aF_ kT_ (pv 3) (pv 1) (aL_ _)) (ad_ (iM_ (en_ hr) (df_ (en_ hr) (pv 2) (pv 3) (fun _ _=>rfl)) (pv 4) (pv 5) rfl)) aB_)))
   (ad_ (ap_ (pv 2)))))), ?_⟩
  obtain⟨la,lvs,rfl,hla,hli⟩:=bT_ hv;have llen:lvs.length=L.length:=by rw [hli.length,A1]
  have hn4:=hq.2.2;refine fun f nf=>⟨_,rfl,_,_,rfl,rfl,1,_,rfl,⟨by decide,by decide,by lia,by lia⟩, ?_⟩;rw [show((g:Int)+1-1).toNat=g by lia];refine aU_ (lo:=1) (n:=g) (fun i σ H2=>(∃v3 v4 v5,σ=[some (.ref la),some (.int g),some (.ref f),v3,v4,v5])/\an_ H H2/\∃b:Nat->Addr,H2 f=some (.dK (dN_ b i))/\(∀d,1<=d->d<=i->H2 (b d)=some (.dK (dI []))/\H (b d)=none/\b d≠f)/\∀d e,1<=d->d<=i->1<=e->e<=i->b d=b e->d=e) ⟨⟨none,none,none,rfl⟩,an_.new nf,fun _=>f,ag_,fun d h1 h2=>absurd h1 (by lia),fun d e h1 h2=>absurd h1 (by lia)⟩ ?_ ?_
  .rintro i σ H2 hi ⟨⟨v3,v4,v5,rfl⟩,s2,b,hf,hb,inj⟩;rw [show(1:Int)+(i:Int)=((i+1:Nat):Int) by lia];refine fun p np=> ?_;have pf:f≠p:=by rintro rfl;rw [hf] at np;cases np
   have pb:∀d,1<=d->d<=i->b d≠p:=fun d h1 h2 e=>by rw [<-e,(hb d h1 h2).1] at np;cases np
   refine⟨_,rfl,_,rfl,f,_,rfl,oS_.k (H:=upd H2 p (.dK [])) (kvs:=dN_ b i) (k:= .inl ((i+1:Nat):Int)) (by rw [ak_ pf];exact hf) ?_, ?_⟩
   .rw [ga_];exact ao_ (by lia)
   rw [oa_];refine⟨⟨_,_,_,rfl⟩,(s2.trans (an_.new np)).put nf,_,ag_,fun d h1 h2=> ?_,fun d e h1 h2 h3 h4 h5=> ?_⟩
   .by_cases e:d=i+1
    .rw [A7 e,ak_ (C9 pf),ag_];exact⟨rfl,s2.free np,C9 pf⟩
    .obtain⟨b1,b2,b3⟩:=hb d h1 (by lia);rw [A5 e,ak_ b3,ak_ (pb d h1 (by lia))];exact⟨b1,b2,b3⟩
   .by_cases e1:d=i+1
    .by_cases e2:e=i+1
     .lia
     .rw [A7 e1,A5 e2] at h5;exact absurd h5.symm (pb e h3 (by lia))
    .by_cases e2:e=i+1
     .rw [A5 e1,A7 e2] at h5;exact absurd h5 (pb d h1 (by lia))
     .rw [A5 e1,A5 e2] at h5;exact inj d e h1 (by lia) h3 (by lia) h5
  .rintro σ H2 ⟨⟨v3,v4,v5,rfl⟩,s2,b,hf,hb,inj⟩;refine⟨_,rfl,la,rfl,⟨_,SqL.of (s2 _ _ hla)⟩,aO_ (xs:=lvs) (fun j σ H3=>(∃v3 v4 v5,σ=[some (.ref la),some (.int g),some (.ref f),v3,v4,v5])/\an_ H H3/\H3 f=some (.dK (dN_ b g))/\∃X:Nat->List (Nat×Int),∀d,1<=d->d<=g->H3 (b d)=some (.dK (dI (X d)))/\dM_ (q*d) (X d)/\∀s,vF (X d) s=if cP_ d s (F d s)∈L.take j then F d s else 0) ⟨⟨_,_,_,rfl⟩,s2,hf,fun _=>[],fun d h1 h2=>⟨(hb d h1 h2).1,dM_.nil _,fun s=>by simp [vF]⟩⟩ (fun j σ H3 _ h=>SqL.of (h.2.1 _ _ hla)) ?_ ?_⟩
   .rintro j y σ H3 hj ⟨⟨v3,v4,v5,rfl⟩,s3,hf3,X,hX⟩;obtain⟨dd,hdd,hy⟩:=hli.of_get hj;rw [A9] at hdd;obtain⟨r,hr',rfl⟩:=A4.mp hdd;obtain⟨d,s,hne,rfl⟩:=(hL _).mp (AU hr');obtain⟨d1,dn,s1,sq⟩:=hF d s hne;have dg:=hdg d s hne;obtain⟨ya,rfl,hya⟩:=bS_ hy;obtain⟨x1,x2,x3⟩:=hX d d1 dg;refine⟨ya,_,rfl,SqT.of (s3 _ _ hya),rfl,_,_,rfl,_,_,rfl,_,_,rfl,rfl, ?_⟩;refine⟨_,rfl,_,rfl,_,_,rfl,rfl,_,rfl,hP_ (fun _=> ?_) (fun c=>absurd c (by lia))⟩;refine⟨_,rfl,_,rfl,_,rfl,f, .ref (b d),rfl,iR_ (.inl hf3) d1 dg,_,rfl,b d,_,rfl,oS_.k (k:= .inl (s:Int)) x1 ?_, ?_⟩
    .rw [px_];have:=x2.len;have:=hq.le dn;exact ao_ (by lia)
    rw [sN_];refine⟨⟨_,_,_,rfl⟩,s3.put (hb d d1 dg).2.1,by rw [ak_ (C9 (hb d d1 dg).2.2)];exact hf3,fun e=>if e=d then nz_ (X d) s (F d s) else X e,fun e e1 eg=> ?_⟩;by_cases ed:e=d
    .subst ed;dsimp only;rw [A7 rfl];refine⟨ag_,x2.put s1 sq,fun s'=> ?_⟩;rw [ro_];by_cases es:s'=s
     .subst es;rw [A7 rfl,A7 ((g2_ hr').mpr (.inr rfl))]
     .rw [A5 es,x3];by_cases hm:cP_ e s' (F e s')∈L.take j
      .rw [A7 hm,A7 ((g2_ hr').mpr (.inl hm))]
      .rw [A5 hm,A5 fun z=>((g2_ hr').mp z).elim hm fun z=>es (et_ z).2.1]
    .obtain⟨y1,y2,y3⟩:=hX e e1 eg;dsimp only;rw [A5 ed,ak_ fun z=>ed (inj e d e1 eg d1 dg z)];refine⟨y1,y2,fun s'=> ?_⟩;rw [y3];by_cases hm:cP_ e s' (F e s')∈L.take j
     .rw [A7 hm,A7 ((g2_ hr').mpr (.inl hm))]
     .rw [A5 hm,A5 fun z=>((g2_ hr').mp z).elim hm fun z=>ed (et_ z).1]
   .rintro σ H3 ⟨⟨v3,v4,v5,rfl⟩,s3,hf3,X,hX⟩;refine⟨_,rfl,kk f b X H3 s3 ⟨.inl hf3,fun d h1 h2=>⟨.inl (hX d h1 h2).1,(hX d h1 h2).2.1⟩⟩ ?_⟩
    funext d s
    unfold ny_;by_cases hd:1<=d/\d<=g
    .rw [A7 hd,(hX d hd.1 hd.2).2.2 s,llen,AW];by_cases e:F d s=0
     .rw [e];split<;>rfl
     .rw [A7 ((hL _).mpr ⟨d,s,e,rfl⟩)]
    .rw [A5 hd];exact(By fun e=>hd ⟨(hF d s (C9 e)).1,hdg d s (C9 e)⟩)
theorem qR_ (X:Nat->List (Nat×Int)) {g i j:Nat} (h:i+1<=g):(fnd X i++im_ (i+1) ((X (i+1)).take j)).length<=(fnd X g).length:=by
 have e1:∀g,i+1<=g->(fnd X (i+1)).length<=(fnd X g).length:=by
  intro g hg;induction g with
  |zero=>lia
  |succ g ih=>
   by_cases e:i+1=g+1
   .rw [e];exact AA _
   .rw [jg_ X g,AC];have:=ih (by lia);lia
 have e2:=e1 g h;rw [jg_,AC] at e2;have e3:im_ (i+1) (X (i+1))=im_ (i+1) ((X (i+1)).take j)++im_ (i+1) ((X (i+1)).drop j):=by
  unfold im_;rw [<-B0,Cv]
 rw [e3,AC] at e2;rw [AC];lia
theorem iZ_:FnOk P w K mg base CX0 1 T.f25 T.d25 ["numbers"] (tF_ K):=by
 refine T.X25.F.ok b9_ (fun vs H Q E h=> ?_) (fun cdv A outer s H vs Q E hr h=> ?_)
 .obtain⟨_,_,_,_,_,_,rfl,_⟩:=h;rfl
 .obtain⟨a,q,n,g,b,X,rfl,hT,hq,hgn,kk⟩:=h;refine⟨_,(ac_ (ar_ (i:=1) b9_.nd rfl (by trivial) (au_ ab_))
   (ac_ (aD_ AQ rfl (jH_ (pv 0)) (aj_ (i:=2) b9_.nd rfl (by trivial)) (ad_ (aD_ AQ rfl (jH_ (df_ (en_ hr) (pv 0) (pv 2) (fun _ _=>rfl))) (aj_ (i:=3) b9_.nd rfl (by trivial)) (ad_ (bl_ (aF_ qi_ (df_ (en_ hr) (df_ (en_ hr) (pv 0) (pv 2) (fun _ _=>rfl)) (pv 3) (fun _ _=>rfl)) ae_ (aL_ _)) (ad_ (aG_ (cT_ Ac B8 B7 a1_ (pv 1) (aa_ (aM_ (aa_ (pv 2) (aa_ (pv 3) (aa_ (df_ (en_ hr) (df_ (en_ hr) (pv 0) (pv 2) (fun _ _=>rfl)) (pv 3) (fun _ _=>rfl)) ab_)))) ab_)))) aB_)))))
   (ad_ (ap_ (az_ k9_ (by rfl) T.n_sorted boot_sorted (aa_ (pv 1) ab_)))))), ?_⟩
  have nd:∀d,1<=d->d<=g->((X d).map (·.1)).Nodup:=fun d h1 h2=>(hT.2 d h1 h2).2.1;have hF:FOk q n (ny_ g X):=fun d s h=>by
   unfold ny_ at h;by_cases hd:1<=d/\d<=g
   .rw [A7 hd] at h;have:=(hT.2 d hd.1 hd.2).2.val h;exact⟨hd.1,by lia,this⟩
   .rw [A5 hd] at h;exact absurd rfl h
  have hlen:=qS_ hq hF nd;refine⟨AM _,fun l H1 nl s1 hl=> ?_⟩;have T1:=hT.fz (Fz.of_same s1);refine⟨_,rfl,a,dN_ b g,rfl,T1.1,fun o H2 ha2 k2=> ?_⟩;have z2:=Fz.walk T1.1 ha2 k2;refine hT_ (fun i σ H3=>(∃v2 v3,σ=[some (.ref a),some (.ref l),v2,v3])/\H3 a=some (.frz o (.dK (dN_ b g)))/\Fz H H3/\∃vs,H3 l=some (.lst vs)/\Iss H3 ((fnd X i).map tI) vs) ⟨⟨none,none,rfl⟩,ha2,(Fz.of_same s1).trans z2,[],z2.lts.1 _ _ hl,am_⟩ (fun i σ H3 _ h=>h.2.1) ?_ ?_
  .rintro i ky vv σ H3 hi ⟨⟨v2,v3,rfl⟩,ha3,z3,vs,hl3,hi3⟩;have hig:i<g:=by
    have:=(AD.mp hi).1
    rwa [ga_] at this
   rw [mj_ hig] at hi;cases hi;have T3:=hT.fz z3;obtain⟨tb,te⟩:=T3.2 (i+1) (by lia) (by lia);have ba:b (i+1)≠a:=r6_ T3.1 tb (by lia);refine⟨_,rfl,_,rfl,a, .ref (b (i+1)),rfl,iR_ (.inr ⟨o,ha3⟩) (by lia) (by lia),b (i+1),dI (X (i+1)),rfl,tb,fun o2 H4 hb4 k4=> ?_⟩;have z4:=Fz.walk tb hb4 k4;refine hT_ (fun j σ H5=>(∃v3,σ=[some (.ref a),some (.ref l),some (.int ((i+1:Nat):Int)),v3])/\H5 (b (i+1))=some (.frz o2 (.dK (dI (X (i+1)))))/\H5 a=some (.frz o (.dK (dN_ b g)))/\Fz H H5/\∃vs,H5 l=some (.lst vs)/\Iss H5 ((fnd X i++im_ (i+1) ((X (i+1)).take j)).map tI) vs) ⟨⟨_,rfl⟩,hb4,by rw [k4 a (C9 ba)];exact ha3,z3.trans z4,vs,z4.lts.1 _ _ hl3,by simpa [im_] using g1_ z4.lts.2 hi3⟩ (fun j σ H5 _ h=>h.2.1) ?_ ?_
   .rintro j ky vv σ H5 hj ⟨⟨v3,rfl⟩,hb5,ha5,z5,vs,hl5,hi5⟩;obtain⟨x,hx,rfl⟩:=us_ hj;have vx:vF (X (i+1)) x.1=x.2:=pI_ te.1 (AU hx);have hgo:=iR_ (H:=H5) (a:=a) (b:=b) (g:=g) (d:=i+1) (.inr ⟨o,ha5⟩) (by lia) (by lia);have hgi:=sO_ (H:=H5) (a:=b (i+1)) (k:=x.1) (.inr ⟨o2,hb5⟩) (ok_ hx);have bl:l≠b (i+1):=by rintro rfl;rw [hl5] at hb5;cases hb5
    have al:l≠a:=by rintro rfl;rw [hl5] at ha5;cases ha5
    rw [vx] at hgi;refine⟨_,rfl,_,rfl,a,_,rfl,hgo,_,rfl,b (i+1),_,rfl,hgi,rfl,_,rfl,qF_ (fun e=> ?_) (fun e=> ?_)⟩
    .refine⟨_,rfl, .inl ⟨rfl,_,SqL.of hl5⟩,_,rfl,_,rfl,_,rfl,_,rfl,a,_,rfl,hgo,_,rfl,b (i+1),_,rfl,hgi,(by show 3<=sizeLine;decide),fun p H6 np s6 hp=> ?_⟩;refine⟨l,vs, .ref p,rfl,rfl,s6 _ _ hl5, ?_, ?_⟩
     .have e1:=hi5.length;have e2:=qR_ X (g:=g) (i:=i) (j:=j) (by lia);rw [A1] at e1;exact ao_ (by lia)
     .have hl6:=s6 _ _ hl5;have t6:∀c xs,H5 c=some (.tup xs)->(upd H6 l (.lst (vs++[.ref p]))) c=some (.tup xs):=fun c xs e=>by
       rw [ak_ (by rintro rfl;rw [hl5] at e;cases e)];exact s6 _ _ e
      have pl:p≠l:=by rintro rfl;rw [hl5] at np;cases np
      refine⟨⟨_,rfl⟩,by rw [ak_ (C9 bl)];exact s6 _ _ hb5,by rw [ak_ (C9 al)];exact s6 _ _ ha5,(z5.trans (Fz.of_same s6)).put nl,_,ag_, ?_⟩;rw [kk_ hx,A5 e,<-BA,AG];exact(g1_ t6 hi5).append (ai_ (e3_ (by rw [ak_ pl];exact hp)) am_)
    .refine⟨⟨_,rfl⟩,hb5,ha5,z5,vs,hl5, ?_⟩;rw [kk_ hx,A7 e,Av];exact hi5
   .rintro σ H5 ⟨⟨v3,rfl⟩,hb5,ha5,z5,vs,hl5,hi5⟩;rw [px_,AW,<-jg_] at hi5;exact⟨⟨_,_,rfl⟩,ha5,z5,vs,hl5,hi5⟩
  .rintro σ H3 ⟨⟨v2,v3,rfl⟩,ha3,z3,vs,hl3,hi3⟩;rw [ga_] at hi3;refine⟨_,rfl, .ref l,fnd X g,3,rfl,cq_ hl3 hi3,by decide,fun xs hx=> ?_,by lia,fun yss l2 H4 hp so nl2 s4 hq4=> ?_⟩
   .obtain⟨d,s,_,rfl⟩:=(jf_ nd).mp hx;rfl
   .have e:=lF_ hF (hW_ nd) (fun r=>jf_ nd) hp so;subst e;exact kk l2 H4 (z3.trans (Fz.of_same s4)) (z3.free nl2) hq4
theorem d1_:FnOk P w K mg base CX0 1 T.f21 T.d21 ["d","k"] (uW_ K):=by
 refine T.X21.F.ok dP_ (fun vs H Q E h=> ?_) (fun cdv A outer s H vs Q E hr h=> ?_)
 .obtain⟨_,_,rfl,_⟩:=h;rfl
 .obtain⟨d,k,rfl,d1,d5,kk⟩:=h;refine⟨_,(ad_ (ap_ (al_ aH_ (al_ dZ_ (al_ ba_ (pv 0) (al_ aE_ (pv 0) ae_)) ae_) (pv 1)))), ?_⟩;rw [<-rT_ d5] at kk;exact⟨_,rfl,_,rfl,_,_,rfl,rfl,_,_,rfl,rfl, .inr ⟨by lia,by lia⟩,_,_,rfl,rfl,⟨by decide,by decide⟩,_,rfl,_,_,rfl,rfl,kk⟩
theorem hq_:FnOk P w K mg base CX0 55 T.f22 T.d22 ["d","k"] (uZ_ K):=by
 refine T.X22.F.ok he_ (fun vs H Q E h=> ?_) (fun cdv A outer s H vs Q E hr h=> ?_)
 .obtain⟨_,_,rfl,_⟩:=h;rfl
 .obtain⟨d,k,rfl,d1,d4,k6,kk⟩:=h;refine⟨_,(ad_ (ap_ (aM_ (aa_ (pv 0) (aa_ (ah_ (d1_ T) (hr.mono (by decide)) (by rfl) T.X21.m T.X21.F.kp T.X21.B .nil aq_ (aa_ (pv 0) (aa_ (pv 1) ab_))) (aa_ (ah_ (kU_ T) (hr.mono (by decide)) (by rfl) T.X20.m T.X20.F.kp T.X20.B .nil aq_ (aa_ (pv 0) (aa_ (pv 1) (aa_ (au_ ab_) (aa_ (au_ (aa_ (pv 0) ab_)) ab_))))) ab_)))))), ?_⟩;refine⟨_,rfl,_,rfl,_,rfl,d,k,rfl,d1,by lia,_,rfl,_,rfl,AM _,fun l1 H1 n1 s1 h1=>⟨_,rfl,(by show 1<=sizeLine;decide),fun l2 H2 n2 s2 h2=> ?_⟩⟩;have r1:Is H2 (rwL []) (.ref l1):=hQ_ (s2 _ _ h1);have r2:Is H2 (rwL [(d:Int)]) (.ref l2):=hQ_ h2;have ro:ft_ [(d:Int)]:=⟨fun i=>by cases i<;>simp,by simp, .inr ⟨[],d,rfl,by lia⟩⟩
  refine⟨d,k,_,_,[],[(d:Int)],rfl,⟨d1, .inl ⟨d4,k6⟩⟩,r1,r2,⟨fun i=>by simp,by simp, .inl rfl⟩,ro,by simp [wtF,wtG],by simp,by simpa using d1,fun H3 s3=> ?_⟩;rw [(sW_ d1 d4 k6).1];exact⟨(by show 3<=sizeLine;decide),fun t H4 n4 s4 h4=>kk _ H4 (((s1.trans s2).trans s3).trans s4) (e3_ h4)⟩
theorem gf_:FnOk P w K mg base CX0 56 T.f23 T.d23 ["d"] (uV_ K):=by
 refine T.X23.F.ok bF_ (fun vs H Q E h=> ?_) (fun cdv A outer s H vs Q E hr h=> ?_)
 .obtain⟨_,rfl,_⟩:=h;rfl
 .obtain⟨d,rfl,d1,d4,kk⟩:=h;refine⟨_,(ac_ (ar_ (i:=1) bF_.nd rfl (by trivial) (au_ ab_))
   (ac_ (aD_ AQ rfl (bv_ (by rfl) T.n_range (aa_ ae_ (aa_ (al_ aE_ (pv 0) ae_) ab_))) (aj_ (i:=2) bF_.nd rfl (by trivial)) (ad_ (aD_ AQ rfl (cC_ (by rfl) T.n_range (aa_ (al_ aE_ (al_ dZ_ (al_ ba_ (pv 2) (al_ aH_ (pv 2) ae_)) ae_) ae_) ab_)) (aj_ (i:=3) bF_.nd rfl (by trivial)) (ad_ (aG_ (cT_ Ac B8 B7 a1_ (pv 1) (aa_ (ah_ (hq_ T) (hr.mono (by decide)) (by rfl) T.X22.m T.X22.F.kp T.X22.B .nil aq_ (aa_ (pv 2) (aa_ (pv 3) ab_))) ab_)))))))
   (ad_ (ap_ (pv 1))))), ?_⟩
  refine⟨AM _,fun f H1 nf s1 hf=> ?_⟩;refine⟨_,rfl,_,_,rfl,rfl,1,_,rfl,⟨by decide,by decide,by lia,by lia⟩, ?_⟩;rw [show((d:Int)+1-1).toNat=d by lia];refine aU_ (lo:=1) (n:=d) (fun i σ H2=>(∃v2 v3,σ=[some (.int d),some (.ref f),v2,v3])/\an_ H H2/\∃vs,H2 f=some (.lst vs)/\Iss H2 ((dX_ i).map tI) vs) ⟨⟨none,none,rfl⟩,s1,[],hf,am_⟩ ?_ ?_
  .rintro i σ H2 hi ⟨⟨v2,v3,rfl⟩,s2,vs2,hf2,hi2⟩;rw [show(1:Int)+(i:Int)=((i+1:Nat):Int) by lia];have hh:=qL_ (d:=i+1) (by lia) (by lia);have tl:=rq_ (d:=i+1) (by lia);have ul:=lT_ (i:=i) (by lia);have pl:=rU_ (d:=i+1) (by lia);refine⟨_,rfl,_,rfl,_,_,rfl,rfl,_,_,rfl,rfl, .inr ⟨by lia,by lia⟩,_,_,rfl,rfl,⟨by decide,by decide⟩,_,_,rfl,rfl,_,rfl,by rw [hh];lia,by rw [hh];lia, ?_⟩;rw [hh,show(((i+1)*(i+1-1)/2:Nat):Int)+1=(((i+1)*i/2+1:Nat):Int) by rw [Nat.add_sub_cancel];lia,Ap];rw [Nat.add_sub_cancel] at tl pl;refine aU_ (lo:=0) (n:=(i+1)*i/2+1) (fun j σ H3=>(∃v3,σ=[some (.int d),some (.ref f),some (.int ((i+1:Nat):Int)),v3])/\an_ H H3/\∃vs,H3 f=some (.lst vs)/\Iss H3 ((dX_ i++(List.range j).map fun k=>cP_ (i+1) (ptF (i+1)-k) (cT (i+1) k)).map tI) vs) ⟨⟨_,rfl⟩,s2,vs2,hf2,by simpa using hi2⟩ ?_ ?_
   .rintro j σ H3 hj ⟨⟨v3,rfl⟩,s3,vs3,hf3,hi3⟩;rw [Int.zero_add];have vl:=hi3.length;rw [A1,AC,A1,BI] at vl;refine⟨_,rfl, .inl ⟨rfl,_,SqL.of hf3⟩,_,rfl,_,rfl,i+1,j,rfl,by lia,by lia,by lia,fun v H4 s4 hv=> ?_⟩;refine⟨f,vs3,_,rfl,rfl,s4 _ _ hf3,ao_ (by lia),⟨_,rfl⟩,(s3.trans s4).put nf,_,ag_, ?_⟩;have er:(dX_ i++(List.range (j+1)).map fun k=>cP_ (i+1) (ptF (i+1)-k) (cT (i+1) k))=(dX_ i++(List.range j).map fun k=>cP_ (i+1) (ptF (i+1)-k) (cT (i+1) k))++[cP_ (i+1) (ptF (i+1)-j) (cT (i+1) j)]:=by
     rw [Au,AG,<-BA];rfl
    rw [er,AG];have t5:=by_.upd (s4 _ _ hf3) (ys:=vs3++[v]);refine(ee_ ((by_.of_same s4).trans t5) hi3).append (ai_ (fg_ t5 ?_) am_);rw [show cP_ (i+1) (ptF (i+1)-j) (cT (i+1) j)=[((i+1:Nat):Int),((ptF (i+1):Nat):Int)-(j:Int),cT (i+1) j] by unfold cP_;rw [Int.natCast_sub (by lia)]];exact hv
   .rintro σ H3 ⟨⟨v3,rfl⟩,s3,vs3,hf3,hi3⟩;refine⟨⟨_,_,rfl⟩,s3,vs3,hf3, ?_⟩;unfold dX_;rw [bk_];exact hi3
  .rintro σ H2 ⟨⟨v2,v3,rfl⟩,s2,vs2,hf2,hi2⟩;exact⟨_,rfl,kk f H2 s2 nf (cq_ hf2 hi2)⟩
theorem be_:FnOk P w K mg base (CX1 P w) 57 T.f26 T.d26 ["d"] (tG_ T.c_NoBound):=by
 refine T.X26.F.okx ds_ (fun vs H Q E h=> ?_) (fun cdv A outer s H vs Q E hr h hR hp=> ?_)
 .obtain⟨_,rfl,_⟩:=h;rfl
 .obtain⟨v,rfl,hv,kk,ke⟩:=h;refine⟨_,(ac_ (aG_ (ah_ (cF_ T) (hr.mono (by decide)) (by rfl) T.X1.m T.X1.F.kp T.X1.B .nil hp (aa_ (pv 0) (aa_ ae_ (aa_ ae_ ab_)))))
   (ad_ (ap_ (ah_ (iZ_ T) (hr.mono (by decide)) (by rfl) T.X25.m T.X25.F.kp T.X25.B .nil aq_ (aa_ (ah_ (hr_ T) (hr.mono (by decide)) (by rfl) T.X24.m T.X24.F.kp T.X24.B .nil aq_ (aa_ (ah_ (gf_ T) (hr.mono (by decide)) (by rfl) T.X23.m T.X23.F.kp T.X23.B .nil aq_ (aa_ (pv 0) ab_)) (aa_ (pv 0) ab_))) ab_))))), ?_⟩
  refine⟨_,rfl,v,1,4,rfl,hv,fun hW=> ?_,fun hn=>⟨by decide,ke hn⟩⟩;obtain⟨i,rfl,i1,i4⟩:=hW;obtain⟨d,rfl⟩:=BJ (show 0<=i by lia);have kk:=kk d rfl (by lia) (by lia);refine⟨_,rfl,d,rfl,by lia,by lia,fun l1 H1 s1 n1 h1=> ?_⟩;refine⟨_,rfl, .ref l1,4,d,d,Ft d,dX_ d,rfl,h1,fun r=>lS_ (by lia),uz_ (by lia),s6_ (by lia) (by lia),AA _,fun e s h=>(nx_ (by lia) h).2.1,fun a b X H2 s2 hT hX=> ?_⟩;refine⟨a,4,d,d,b,X,rfl,hT,s6_ (by lia) (by lia),AA _,fun l H3 z3 nl hl=> ?_⟩;rw [hX,sG_ d (by lia)] at hl;exact kk l H3 ((Fz.of_same (s1.trans s2)).trans z3) ((s1.trans s2).free nl) hl
theorem i1_:FnOk P w K mg base CX0 13 T.f44 T.d44 ["_law_most"] (tW_ K):=by
 refine T.X44.F.ok bN_ (fun vs H Q E h=> ?_) (fun cdv A outer s H vs Q E hr h=> ?_)
 .obtain⟨_,rfl,_⟩:=h;rfl
 .obtain⟨d,rfl,d1,d4,kk⟩:=h;refine⟨_,(ac_ (ar_ (i:=1) bN_.nd rfl (by trivial) (au_ ab_))
   (ac_ (aD_ AQ rfl (bv_ (by rfl) T.n_range (aa_ ae_ (aa_ (al_ aE_ (pv 0) ae_) ab_))) (aj_ (i:=2) bN_.nd rfl (by trivial)) (ad_ (aD_ AQ rfl (bv_ (by rfl) T.n_range (aa_ ae_ (aa_ (al_ aE_ (al_ dZ_ (al_ ba_ (pv 2) (al_ aE_ (pv 2) ae_)) ae_) ae_) ab_))) (aj_ (i:=3) bN_.nd rfl (by trivial)) (ac_ (ar_ (i:=4) bN_.nd rfl (by trivial) (al_ aH_ (al_ dZ_ (al_ ba_ (pv 2) (al_ aE_ (pv 2) ae_)) ae_) (pv 3)))
   (ad_ (bl_ (o5_ (aF_ kT_ (pv 4) ae_ (aL_ _)) (l3_ (aF_ qi_ (ah_ (bW_ T) (hr.mono (by decide)) (by rfl) T.X40.m T.X40.F.kp T.X40.B .nil aq_ (aa_ (pv 2) (aa_ (pv 4) ab_))) ae_ (aL_ _)))).pt (ad_ (aG_ (cT_ Ac B8 B7 a1_ (pv 1) (aa_ (aM_ (aa_ (pv 2) (aa_ (pv 3) (aa_ (ah_ (bW_ T) (hr.mono (by decide)) (by rfl) T.X40.m T.X40.F.kp T.X40.B .nil aq_ (aa_ (pv 2) (aa_ (pv 4) ab_))) ab_)))) ab_)))) aB_))))))
   (ad_ (ap_ (pv 1))))), ?_⟩
  refine⟨AM _,fun f H1 nf s1 hf=> ?_⟩;refine⟨_,rfl,_,_,rfl,rfl,1,_,rfl,⟨by decide,by decide,by lia,by lia⟩, ?_⟩;rw [show((d:Int)+1-1).toNat=d by lia];refine aU_ (lo:=1) (n:=d) (fun i σ H2=>(∃v2 v3 v4,σ=[some (.int d),some (.ref f),v2,v3,v4])/\an_ H H2/\∃vs,H2 f=some (.lst vs)/\Iss H2 ((m4_ i).map tI) vs) ⟨⟨none,none,none,rfl⟩,s1,[],hf,am_⟩ ?_ ?_
  .rintro i σ H2 hi ⟨⟨v2,v3,v4,rfl⟩,s2,vs2,hf2,hi2⟩;rw [show(1:Int)+(i:Int)=((i+1:Nat):Int) by lia];have hh:=rT_ (d:=i+1) (by lia);have ul:=kl_ (i:=i) (by lia);have pl:=rU_ (d:=i+1) (by lia);refine⟨_,rfl,_,rfl,_,_,rfl,rfl,_,_,rfl,rfl, .inr ⟨by lia,by lia⟩,_,_,rfl,rfl,⟨by decide,by decide⟩,_,_,rfl,rfl,1,_,rfl,⟨by decide,by decide,by rw [hh];lia,by rw [hh];lia⟩, ?_⟩;rw [hh,show(((ptF (i+1):Nat):Int)+1-1).toNat=ptF (i+1) by lia];refine aU_ (lo:=1) (n:=ptF (i+1)) (fun j σ H3=>(∃v3 v4,σ=[some (.int d),some (.ref f),some (.int ((i+1:Nat):Int)),v3,v4])/\an_ H H3/\∃vs,H3 f=some (.lst vs)/\Iss H3 ((m4_ i++(List.range j).flatMap fun j=>th_ (i+1) (j+1)).map tI) vs/\vs.length<=14+j) ⟨⟨_,_,rfl⟩,s2,vs2,hf2,by simpa using hi2,by have:=hi2.length;rw [A1] at this;lia⟩ ?_ ?_
   .rintro j σ H3 hj ⟨⟨v3,v4,rfl⟩,s3,vs3,hf3,hi3,vl⟩;rw [show(1:Int)+(j:Int)=((j+1:Nat):Int) by lia];refine⟨_,rfl,_,rfl,_,_,rfl,rfl,_,_,rfl,rfl, .inr ⟨by lia,by lia⟩,_,_,rfl,rfl,⟨by decide,by decide⟩,_,rfl,_,_,rfl,rfl, ?_⟩;rw [hh];obtain⟨k,hk⟩:∃k:Nat,ptF (i+1)-(j+1)=k:=⟨_,rfl⟩;have ek:((ptF (i+1):Nat):Int)-((j+1:Nat):Int)=(k:Int):=by lia
    have e5:(fun i j=>V.int (i-j)) ((ptF (i+1):Nat):Int) ((j+1:Nat):Int)=V.int (k:Int):=by rw [<-ek]
    rw [e5,bk_,<-BA];have ed:th_ (i+1) (j+1)=if k<=6/\cT (i+1) k≠0 then [cP_ (i+1) (j+1) (cT (i+1) k)] else []:=by unfold th_;rw [hk]
    rw [ed];clear ed hk;refine⟨_,rfl,_,_,rfl,rfl,_,rfl,hP_ (fun k6=> ?_) (fun k6=> ?_)⟩
    .have ce:=sW_ (d:=i+1) (k:=k) (by lia) (by lia) (by lia);have hW:Wide (i+1) k:=⟨by lia, .inl ⟨by lia,by lia⟩⟩;refine⟨_,rfl,_,rfl,i+1,k,rfl,hW,fun H4 s4=> ?_⟩;rw [ce.2.1];refine⟨rfl,_,rfl,qF_ (fun ne=> ?_) (fun eq=> ?_)⟩
     .refine⟨_,rfl, .inl ⟨rfl,_,SqL.of (s4 _ _ hf3)⟩,_,rfl,_,rfl,_,rfl,_,rfl,i+1,k,rfl,hW,fun H5 s5=> ?_⟩;rw [ce.2.1];refine⟨(by show 3<=sizeLine;decide),fun t H6 n6 s6 h6=> ?_⟩;have s36:=(s4.trans s5).trans s6;refine⟨f,vs3,_,rfl,rfl,s36 _ _ hf3,ao_ (by lia),⟨_,_,rfl⟩,(s3.trans s36).put nf,_,ag_, ?_,by rw [AC];simp;lia⟩;rw [A7 ⟨by lia,ne⟩,AG];have t7:=by_.upd (s36 _ _ hf3) (ys:=vs3++[.ref t]);exact(ee_ ((by_.of_same s36).trans t7) hi3).append (ai_ (fg_ t7 (e3_ h6)) am_)
     .refine⟨⟨_,_,rfl⟩,s3.trans s4,vs3,s4 _ _ hf3, ?_,by lia⟩;rw [A5 (fun h=>h.2 eq),Av];exact hi3.mono s4
    .refine⟨⟨_,_,rfl⟩,s3,vs3,hf3, ?_,by lia⟩;rw [A5 (fun h=>k6 (by lia)),Av];exact hi3
   .rintro σ H3 ⟨⟨v3,v4,rfl⟩,s3,vs3,hf3,hi3,vl⟩;refine⟨⟨_,_,_,rfl⟩,s3,vs3,hf3, ?_⟩;unfold m4_;rw [bk_];exact hi3
  .rintro σ H2 ⟨⟨v2,v3,v4,rfl⟩,s2,vs2,hf2,hi2⟩;exact⟨_,rfl,kk f H2 s2 nf (cq_ hf2 hi2)⟩
theorem co_:FnOk P w K mg base CX0 1 T.f45 T.d45 ["_law_told","_law_due_here"] (rH_ K):=by
 refine T.X45.F.ok ck_ (fun vs H Q E h=> ?_) (fun cdv A outer s H vs Q E hr h=> ?_)
 .obtain⟨_,_,_,rfl,_⟩:=h;rfl
 .obtain⟨v,u,L,rfl,hv,hu,hL,kk⟩:=h;refine⟨_,(ac_ (bl_ (iL_ (dz_ (cB_ (az_ cS_ (by rfl) T.n_isinstance Bz (aa_ (pv 0) (aa_ (dg_ (v:= .ty "list") (by rfl) T.n_list boot_list (by rfl)) ab_))))) (fy_ (aF_ (r9_ hr) (pv 0) (pv 1) (aL_ _)))).pt (ad_ (ap_ fk_)) aB_)
   (ac_ (aD_ AQ rfl (aP_ (pv 0)) (aj_ (i:=2) ck_.nd rfl (by trivial)) (ad_ (bl_ (PW.pt (iL_ (dz_ (cB_ (az_ cS_ (by rfl) T.n_isinstance Bz (aa_ (pv 2) (aa_ (dg_ (v:= .ty "tuple") (by rfl) T.n_tuple boot_tuple (by rfl)) ab_))))) (fy_ (cB_ (az_ (oP_ rfl) (by rfl) T.n_any boot_any (aa_ (bV_ (XN:=["_law_told","_law_due_here","_law_row"]) (sc:=af_ bc_) (N:=["_law_number"]) (own:=1) (js:=[]) rfl (by ac_nf) rfl rfl (o7_ (pv 2)) (fun _ _ _ _=>(aj_ (i:=0) (show List.Nodup (["_law_number"]:List Str) by ac_nf) rfl (Or.inl rfl) (.inr rfl))) (cD_ (by decide)) (fun _ _ _ _=>cf_) (fun _ _ _ _=>(az_ (no_ (K:=K) rfl) (by rfl) T.n_isinstance Bz (aa_ (pv 0) (aa_ (dg_ (v:= .ty "bool") (by rfl) T.n_bool boot_bool (by rfl)) ab_))))) ab_)))))) (ad_ (ap_ fk_)) aB_)))
   (ad_ (ap_ fk_)))), ?_⟩
  obtain⟨la,lvs,rfl,hla,hli⟩:=bT_ hv;refine⟨_,rfl,_,"list",_,true,rfl, .lst hla,ex_,true,rfl,gF_ ⟨_,rfl,_,rfl,2,true,qV_ hv hu,by decide,_,rfl,gF_ ?_⟩⟩;refine⟨_,rfl,la,rfl,⟨_,SqL.of hla⟩,aO_ (xs:=lvs) (fun i σ H2=>(∃v2,σ=[some (.ref la),some u,v2])/\an_ H H2) ⟨⟨none,rfl⟩,an_.refl _⟩ (fun i σ H2 _ h=>SqL.of (h.2 _ _ hla)) ?_ ?_⟩
  .rintro i y σ H2 hi ⟨⟨v2,rfl⟩,s2⟩;obtain⟨dd,hdd,hy⟩:=hli.of_get hi;rw [A9] at hdd;obtain⟨r,hr',rfl⟩:=A4.mp hdd;have rl:=hL r (AU hr');have hy2:=hy.mono s2;obtain⟨t,rfl,ht⟩:=bS_ hy2;refine⟨_,rfl,_,"tuple",_,true,rfl, .tup ht,ex_,true,rfl,gF_ ?_⟩;refine⟨_,rfl,t,rfl,⟨_,SqT.of ht⟩,fun acc na=> ?_⟩;refine oM_ (xs:=r.map V.int) (own:=1) (js:=[]) (fun j H4=>an_ H2 H4/\H4 acc=some (.lst ((List.replicate j false).map V.bl))) ⟨an_.new na,ag_⟩ (fun j H4 _ h=>SqT.of (h.1 _ _ ht)) ?_ ?_ cJ_ cg_ ?_
   .rintro j x H4 hj ⟨s4,hacc⟩;rw [A9] at hj;obtain⟨n,hn,rfl⟩:=A4.mp hj;have hj3:j<r.length:=(AD.mp hn).1;refine s8_ ?_;refine⟨_,rfl,_,"bool",_,false,rfl, .int n,eh_,acc,_,_,rfl,rfl,hacc,ao_ (by rw [A1,BC];lia),s4.put na, ?_⟩;rw [ag_,List.replicate_succ',AG];rfl
   .rintro H4 ⟨s4,hacc⟩;refine⟨acc,List.replicate _ false,rfl,SqL.of hacc,false, ?_,gF_ ⟨⟨_,rfl⟩,s2.trans s4⟩⟩;rw [show((List.replicate (r.map V.int).length false).any id)=false by simp]
   .rintro σ H R R' k ⟨v1,e1,x,n,t,b,e2,e3,e4,h⟩;exact⟨v1,e1,x,n,t,b,e2,e3,e4,k _ _ h⟩
  .rintro σ H2 ⟨⟨v2,rfl⟩,s2⟩;exact kk H2 s2
theorem i0_:FnOk P w K mg base CX0 10 T.f46 T.d46 ["_law_cell"] (tO_ K):=by
 refine T.X46.F.ok ca_ (fun vs H Q E h=> ?_) (fun cdv A outer s H vs Q E hr h=> ?_)
 .obtain⟨_,rfl,_⟩:=h;rfl
 .obtain⟨x,rfl,kk⟩:=h;refine⟨_,(ac_ (ar_ (i:=1) ca_.nd rfl (by trivial) (au_ (aa_ (ah_ (dE_ T) (hr.mono (by decide)) (by rfl) T.X42.m T.X42.F.kp T.X42.B .nil aq_ (aa_ (pv 0) ab_)) ab_)))
   (ac_ (ar_ (i:=2) ca_.nd rfl (by trivial) (ah_ (bJ_ T) (hr.mono (by decide)) (by rfl) T.X43.m T.X43.F.kp T.X43.B .nil aq_ (aa_ (pv 1) (aa_ ae_ ab_))))
   (ac_ (ar_ (i:=3) ca_.nd rfl (by trivial) (ah_ (bJ_ T) (hr.mono (by decide)) (by rfl) T.X43.m T.X43.F.kp T.X43.B .nil aq_ (aa_ (pv 1) (aa_ (bp_ dm_ (au_ (aa_ ae_ (aa_ (al_ fA_ ae_ ae_) ab_))) (ah_ (bJ_ T) (hr.mono (by decide)) (by rfl) T.X43.m T.X43.F.kp T.X43.B .nil aq_ (aa_ (pv 1) (aa_ ae_ ab_))) (fun _ _=>rfl)) ab_))))
   (ac_ (bl_ (aF_ iS_ (pv 2) ae_ (aL_ _)) (ad_ (ap_ (al_ aE_ ae_ (pv 3)))) aB_)
   (ac_ (bl_ (aF_ iS_ (pv 2) ae_ (aL_ _)) (ad_ (ap_ (al_ aH_ ae_ (pv 3)))) aB_)
   (ad_ (ap_ (bp_ dm_ (au_ (aa_ r4_ (aa_ fk_ (aa_ fk_ (aa_ mb_ (aa_ (au_ (aa_ ae_ ab_)) (aa_ (aM_ (aa_ ae_ ab_)) ab_))))))) (al_ aH_ (pv 2) ae_) (fun _ _=>rfl))))))))), ?_⟩
  refine⟨_,rfl,x,rfl,fun z z0=>⟨(by show 1<=sizeLine;decide),fun b H1 nb s1 hb=> ?_⟩⟩;refine⟨_,rfl,b,8,z,rfl,hb,z0,by decide,by decide,fun wy z1 w0 w1 z10=> ?_⟩;have hb1:upd H1 b (.lst [.int z1]) b=some (.lst [.int z1]):=ag_;have s01:an_ H (upd H1 b (.lst [.int z1])):=s1.put nb;generalize upd H1 b (.lst [.int z1])=H2 at hb1 s01⊢;refine⟨_,rfl,10,30,rfl,rfl,⟨by decide,by decide,by decide⟩,(by show 2<=sizeLine;decide),fun q H3 nq s3 hq=> ?_⟩;refine⟨_,rfl,b,2,z1,rfl,s3 _ _ hb1,z10,by decide,by decide,fun c z2 c0 c1 z20=> ?_⟩;have qb:q≠b:=by rintro rfl;rw [hb1] at nq;cases nq
  have hq4:upd H3 b (.lst [.int z2]) q=some (.lst [.int 3, .int (10^(30:Int).toNat)]):=by rw [ak_ qb];exact hq
  have hb4:upd H3 b (.lst [.int z2]) b=some (.lst [.int z2]):=ag_;have s04:an_ H (upd H3 b (.lst [.int z2])):=(s01.trans s3).put nb;generalize upd H3 b (.lst [.int z2])=H4 at hq4 hb4 s04⊢;obtain⟨m,hm,m0,m1⟩:∃m:Int,atI [V.int 3, .int (10^(30:Int).toNat)] c=some (.int m)/\0<m/\m<=10^60:=by
   rcases(show c=0\/c=1 by lia) with rfl|rfl
   .exact⟨3,rfl,by decide,by decide⟩
   .exact⟨_,rfl,by decide,by decide⟩
  refine⟨q,_,c, .int m,rfl,rfl,SqL.of hq4,hm,b,m,z2,rfl,hb4,z20,m0,m1,fun far z3 f0 f1 z30=> ?_⟩;have s05:an_ H (upd H4 b (.lst [.int z3])):=s04.put nb;generalize upd H4 b (.lst [.int z3])=H5 at s05⊢;refine⟨_,rfl,rfl,_,rfl,qG_ (fun e=> ?_) (fun e=> ?_)⟩
  .exact⟨_,rfl,_,_,rfl,rfl,kk _ H5 s05 (.inl ⟨_,rfl⟩) (fun⟨i,ei,_,h4⟩=>by have:=V.int.inj ei;lia)⟩
  refine⟨_,rfl,rfl,_,rfl,qG_ (fun e2=> ?_) (fun e2=> ?_)⟩
  .exact⟨_,rfl,_,_,rfl,rfl,kk _ H5 s05 (.inl ⟨_,rfl⟩) (fun⟨i,ei,h1,_⟩=>by have:=V.int.inj ei;lia)⟩
  refine⟨(by show 1<=sizeLine;decide),fun q5 H6 n6 s6 h6=>⟨(by show 1<=sizeLine;decide),fun q6 H7 n7 s7 h7=>⟨(by show 6<=sizeLine;decide),fun q7 H8 n8 s8 h8=> ?_⟩⟩⟩;have h6':=s8 _ _ (s7 _ _ h6);have h7':=s8 _ _ h7;obtain⟨v,hv,tv,nw⟩:∃v,atI [V.non, .bl true, .bl false, .str (Str.ofString "3"), .ref q5, .ref q6] (wy-2)=some v/\lf_ H8 v/\¬Within 1 4 v:=by
   rcases(show wy=2\/wy=3\/wy=4\/wy=5\/wy=6\/wy=7 by lia) with rfl|rfl|rfl|rfl|rfl|rfl
   .exact⟨_,rfl, .inr (.inr (.inl rfl)),fun⟨i,e,_⟩=>nomatch e⟩
   .exact⟨_,rfl, .inr (.inl ⟨_,rfl⟩),fun⟨i,e,_⟩=>nomatch e⟩
   .exact⟨_,rfl, .inr (.inl ⟨_,rfl⟩),fun⟨i,e,_⟩=>nomatch e⟩
   .exact⟨_,rfl, .inr (.inr (.inr (.inl ⟨_,rfl⟩))),fun⟨i,e,_⟩=>nomatch e⟩
   .exact⟨_,rfl, .inr (.inr (.inr (.inr (.inl ⟨_,_,rfl,h6'⟩)))),fun⟨i,e,_⟩=>nomatch e⟩
   .exact⟨_,rfl, .inr (.inr (.inr (.inr (.inr ⟨_,_,rfl,h7'⟩)))),fun⟨i,e,_⟩=>nomatch e⟩
  exact⟨_,rfl,_,_,rfl,rfl,q7,_,_,v,rfl,rfl,SqL.of h8,hv,kk v H8 (((s05.trans s6).trans s7).trans s8) tv nw⟩
theorem eT_:FnOk P w K mg base CX0 58 T.f47 T.d47 ["_law_d"] (uU_ K):=by
 refine T.X47.F.oky ct_ (fun vs H Q E h=> ?_) (fun cdv A outer s H vs Q E hr h hF=> ?_)
 .obtain⟨_,rfl,_⟩:=h;rfl
 .obtain⟨v,rfl,hv,hn,kk⟩:=h;refine⟨_,(ac_ (rW_ (i:=1) hF rfl ct_.nd rfl (by trivial) rfl (by rfl) T.m_CurveError (fun E pn z hp=>(ad_ (aG_ (ah_ (be_ T) (hr.mono (by decide)) (by rfl) T.X26.m T.X26.F.kp T.X26.B .nil hp (aa_ (pv 0) ab_))))) (fun e=>(ac_ (bl_ (cB_ (az_ (la_ (K:=K) rfl) (by rfl) T.n_isinstance Bz (aa_ (pv 1) (aa_ (aM_ (aa_ (dY_ (v:= .ref T.c_NoDrawing) (by rfl) T.m_NoDrawing (by rfl)) (aa_ (dY_ (v:= .ref T.c_NoEnds) (by rfl) T.m_NoEnds (by rfl)) (aa_ (dY_ (v:= .ref T.c_NoNumber) (by rfl) T.m_NoNumber (by rfl)) (aa_ (dY_ (v:= .ref T.c_NoText) (by rfl) T.m_NoText (by rfl)) ab_))))) ab_)))) (ad_ (ap_ fk_)) aB_)
   (ad_ (ap_ (me_ (az_ (h9_ (K:=K) rfl) (by rfl) T.n_isinstance Bz (aa_ (pv 1) (aa_ (dY_ (v:= .ref T.c_NoBound) (by rfl) T.m_NoBound (by rfl)) ab_))) (jI_ (az_ (h9_ (K:=K) rfl) (by rfl) T.n_isinstance Bz (aa_ (pv 1) (aa_ (dg_ (v:= .ty "ValueError") (by rfl) T.n_ValueError PyProof.Rows.Boot.«ValueError» (by rfl)) ab_))))))))))
   (ad_ (ap_ fk_))), ?_⟩
  refine⟨fun C _ H'=>C= .ref T.c_NoBound/\an_ H H',⟨_,rfl,v,rfl,hv,fun d ev d1 d4=>absurd ⟨_,ev,by lia,by lia⟩ hn,fun _=>⟨rfl,an_.refl _⟩⟩,fun C e H' ⟨eC,sH⟩ he=> ?_⟩;cases eC;refine⟨T.e_NoBound_CurveError,_,rfl,(by show 4<=sizeLine;decide),fun t H2 nt s2 ht2=> ?_⟩;have hx:=s2 _ _ (ag_ (H:=H') (a:=e) (o:=oF_ T.c_NoBound e));refine⟨e,_,t,_,_,false,rfl,hx,T.X_NoBound,ht2,rfl,T.ks_NoBound_0,false,rfl,gF_ ?_⟩;refine⟨_,rfl,e,_, .ref T.c_NoBound,_,true,rfl,hx,T.X_NoBound,rfl,T.k_NoBound_NoBound,true,rfl,ov_ ?_⟩;exact⟨_,rfl,e,_, .ty "ValueError",_,true,rfl,hx,T.X_NoBound,rfl,T.k_NoBound_ValueError,kk _ ((sH.trans (an_.new he)).trans s2)⟩
theorem sb_:FnOk P w K mg base CX0 59 T.f48 T.d48 ["_law_script"] (jy_ K):=by
 refine T.X48.F.ok hb_ (fun vs H Q E h=> ?_) (fun cdv A outer s H vs Q E hr h=> ?_)
 .obtain⟨_,_,rfl,_⟩:=h;rfl
 .obtain⟨a,ns,rfl,hS,hl,kk⟩:=h;refine⟨_,(ac_ (ar_ (i:=1) hb_.nd rfl (by trivial) (au_ (aa_ (ah_ (dE_ T) (hr.mono (by decide)) (by rfl) T.X42.m T.X42.F.kp T.X42.B .nil aq_ (aa_ (ah_ (cG_ T) (hr.mono (by decide)) (by rfl) T.X41.m T.X41.F.kp T.X41.B .nil aq_ (aa_ (pv 0) (aa_ ae_ ab_))) ab_)) ab_)))
   (ac_ (ar_ (i:=2) hb_.nd rfl (by trivial) (al_ aE_ ae_ (ah_ (bJ_ T) (hr.mono (by decide)) (by rfl) T.X43.m T.X43.F.kp T.X43.B .nil aq_ (aa_ (pv 1) (aa_ ae_ ab_)))))
   (ac_ (ar_ (i:=3) hb_.nd rfl (by trivial) (ah_ (i1_ T) (hr.mono (by decide)) (by rfl) T.X44.m T.X44.F.kp T.X44.B .nil aq_ (aa_ (pv 2) ab_)))
   (ac_ (ar_ (i:=4) hb_.nd rfl (by trivial) (ah_ (be_ T) (hr.mono (by decide)) (by rfl) T.X26.m T.X26.F.kp T.X26.B .nil o9_ (aa_ (pv 2) ab_)))
   (ac_ (bl_ (dz_ (cB_ (ah_ (co_ T) (hr.mono (by decide)) (by rfl) T.X45.m T.X45.F.kp T.X45.B .nil aq_ (aa_ (pv 4) (aa_ (pv 3) ab_))))) (ad_ (ap_ fk_)) aB_)
   (ac_ (aG_ (cT_ Ac B8 B7 a1_ (pv 4) (aa_ (aM_ (aa_ ae_ (aa_ ae_ (aa_ ae_ ab_)))) ab_)))
   (ad_ (ap_ (me_ (ah_ (co_ T) (hr.mono (by decide)) (by rfl) T.X45.m T.X45.F.kp T.X45.B .nil aq_ (aa_ (ah_ (be_ T) (hr.mono (by decide)) (by rfl) T.X26.m T.X26.F.kp T.X26.B .nil o9_ (aa_ (pv 2) ab_)) (aa_ (pv 3) ab_))) (jI_ (ah_ (eT_ T) (hr.mono (by decide)) (by rfl) T.X47.m T.X47.F.kp T.X47.B .nil aq_ (aa_ (ah_ (i0_ T) (hr.mono (by decide)) (by rfl) T.X46.m T.X46.F.kp T.X46.B .nil aq_ (aa_ (ah_ (cG_ T) (hr.mono (by decide)) (by rfl) T.X41.m T.X41.F.kp T.X41.B .nil aq_ (aa_ (pv 0) (aa_ ae_ ab_))) ab_)) ab_)))))))))))), ?_⟩
  refine⟨_,rfl,a,ns,0,rfl,hS,by decide,fun x=>⟨x,rfl,fun z z0=>⟨(by show 1<=sizeLine;decide),fun b H1 nb s1 hb=> ?_⟩⟩⟩;refine⟨_,rfl,b,4,z,rfl,hb,z0,by decide,by decide,fun y z1 y0 y1 z10=>⟨_,_,rfl,rfl, ?_⟩⟩;obtain⟨d,hd⟩:=BJ (show 0<=1+y by lia);have e1:(fun i j=>V.int (i+j)) 1 y=V.int (d:Int):=by rw [<-hd]
  rw [e1];have s02:an_ H (upd H1 b (.lst [.int z1])):=s1.put nb;generalize upd H1 b (.lst [.int z1])=H2 at s02⊢;refine⟨_,rfl,d,rfl,by lia,by lia,fun lD H3 s3 nD hD=> ?_⟩;refine⟨_,rfl, .int d,rfl, .inl ⟨_,rfl⟩,fun d' ed _ _ lT H4 z4 nT hT=> ?_,fun h=>absurd ⟨_,rfl,by lia,by lia⟩ h⟩;obtain rfl:d'=d:=by have:=V.int.inj ed;lia
  have l10:∀r∈m4_ d',r.length<=10:=by
   have:∀d:Nat,d<5->∀r∈m4_ d,r.length<=10:=by ac_nf
   exact this d' (by lia)
  have hD4:=jD_ z4.lts hD;refine⟨_,rfl,_,rfl, .ref lT, .ref lD,_,rfl,hT,hD4,l10,fun H5 s5=>⟨true,rfl,gF_ ?_⟩⟩;have hT5:=hT.mono s5;have hD5:=hD4.mono s5;obtain⟨_,tvs,e,hlT,hti⟩:=bT_ hT5;cases e;have tl:=hti.length;have dl:=kl_ (i:=d') (by lia);rw [A1] at tl;refine⟨_,rfl, .inl ⟨rfl,_,SqL.of hlT⟩,(by show 3<=sizeLine;decide),fun t6 H6 n6 s6 h6=>⟨lT,tvs,_,rfl,rfl,s6 _ _ hlT,ao_ (by lia), ?_⟩⟩;have lDT:lD≠lT:=by
   rintro rfl;obtain⟨_,_,e,hh,_⟩:=bT_ hD;cases e;rw [hh] at nT;cases nT
  have hD7:Is (upd H6 lT (.lst (tvs++[.ref t6]))) (.l ((m4_ d').map tI)) (.ref lD):=nY_ (s6 _ _ hlT) But.upd lDT (hD5.mono s6);have f02:Fz H H6:=((Fz.of_same (s02.trans s3)).trans z4).trans (Fz.of_same (s5.trans s6));have f07:Fz H (upd H6 lT (.lst (tvs++[.ref t6]))):=f02.put ((s02.trans s3).free nT);generalize upd H6 lT (.lst (tvs++[.ref t6]))=H7 at hD7 f07⊢;refine⟨_,rfl, .int d',rfl, .inl ⟨_,rfl⟩,fun d2 ed2 _ _ lU H8 z8 nU hU=> ?_,fun h=>absurd ⟨_,rfl,by lia,by lia⟩ h⟩;obtain rfl:d2=d':=by have:=V.int.inj ed2;lia
  refine⟨_,rfl, .ref lU, .ref lD,_,rfl,hU,jD_ z8.lts hD7,l10,fun H9 s9=>⟨true,rfl,ov_ ?_⟩⟩;have hS9:SqL K H9 a (ns.map V.int):=SqL.fz (f07.trans (z8.trans (Fz.of_same s9))) hS;refine⟨_,rfl,a,ns,1,rfl,hS9,by decide,fun x2=>⟨x2,rfl,fun v HA sA tv nw=>⟨v,rfl,tv,nw,fun HB sB=>kk HB⟩⟩⟩
end
theorem fb1 {K:W.Frag}{mg:Str->Option Value}{n:Str}{st:Stmt}{ps:List Str}{f:Addr}{d:FuncData} (F:Fun K n n st f d) (e:mg n=some (.ref f)) (hp:ps.length=1) (h:∀(kV dc pm:Value) (an:Option Addr) (cd ct x0:Value),bindArgs (W.fnOf n n (ch_ st) (bC_ st) (af_ st) .none kV dc pm an cd ct) ⟨[x0],[]⟩=pure (ps.zip [x0])):Fb K mg n st ps f d:=by
 refine⟨F,F.binds fun kV dc pm an cd ct us hl=> ?_,e⟩;rw [hp] at hl;rcases us with _|⟨x0,us⟩
 .simp at hl
 rcases us with _|⟨y,us⟩
 .exact h kV dc pm an cd ct x0
 .simp at hl
theorem fb2 {K:W.Frag}{mg:Str->Option Value}{n:Str}{st:Stmt}{ps:List Str}{f:Addr}{d:FuncData} (F:Fun K n n st f d) (e:mg n=some (.ref f)) (hp:ps.length=2) (h:∀(kV dc pm:Value) (an:Option Addr) (cd ct x0 x1:Value),bindArgs (W.fnOf n n (ch_ st) (bC_ st) (af_ st) .none kV dc pm an cd ct) ⟨[x0,x1],[]⟩=pure (ps.zip [x0,x1])):Fb K mg n st ps f d:=by
 refine⟨F,F.binds fun kV dc pm an cd ct us hl=> ?_,e⟩;rw [hp] at hl;rcases us with _|⟨x0,us⟩
 .simp at hl
 rcases us with _|⟨x1,us⟩
 .simp at hl
 rcases us with _|⟨y,us⟩
 .exact h kV dc pm an cd ct x0 x1
 .simp at hl
theorem fb3 {K:W.Frag}{mg:Str->Option Value}{n:Str}{st:Stmt}{ps:List Str}{f:Addr}{d:FuncData} (F:Fun K n n st f d) (e:mg n=some (.ref f)) (hp:ps.length=3) (h:∀(kV dc pm:Value) (an:Option Addr) (cd ct x0 x1 x2:Value),bindArgs (W.fnOf n n (ch_ st) (bC_ st) (af_ st) .none kV dc pm an cd ct) ⟨[x0,x1,x2],[]⟩=pure (ps.zip [x0,x1,x2])):Fb K mg n st ps f d:=by
 refine⟨F,F.binds fun kV dc pm an cd ct us hl=> ?_,e⟩;rw [hp] at hl;rcases us with _|⟨x0,us⟩
 .simp at hl
 rcases us with _|⟨x1,us⟩
 .simp at hl
 rcases us with _|⟨x2,us⟩
 .simp at hl
 rcases us with _|⟨y,us⟩
 .exact h kV dc pm an cd ct x0 x1 x2
 .simp at hl
theorem fb4 {K:W.Frag}{mg:Str->Option Value}{n:Str}{st:Stmt}{ps:List Str}{f:Addr}{d:FuncData} (F:Fun K n n st f d) (e:mg n=some (.ref f)) (hp:ps.length=4) (h:∀(kV dc pm:Value) (an:Option Addr) (cd ct x0 x1 x2 x3:Value),bindArgs (W.fnOf n n (ch_ st) (bC_ st) (af_ st) .none kV dc pm an cd ct) ⟨[x0,x1,x2,x3],[]⟩=pure (ps.zip [x0,x1,x2,x3])):Fb K mg n st ps f d:=by
 refine⟨F,F.binds fun kV dc pm an cd ct us hl=> ?_,e⟩;rw [hp] at hl;rcases us with _|⟨x0,us⟩
 .simp at hl
 rcases us with _|⟨x1,us⟩
 .simp at hl
 rcases us with _|⟨x2,us⟩
 .simp at hl
 rcases us with _|⟨x3,us⟩
 .simp at hl
 rcases us with _|⟨y,us⟩
 .exact h kV dc pm an cd ct x0 x1 x2 x3
 .simp at hl
def Hf (K:W.Frag) (n:Str) (st:Stmt) (f:Addr):Prop:=W.nsIn K mainGlobals n=some (some (.ref f))/\∃d,Fun K n n st f d
theorem up_ {K:W.Frag}{n:Str}{st:Stmt}{f:Addr}{od an:Option Addr}{sl:Array (Option Value)}{oc kV dc pm cd ct:Value} (a:W.nsIn K mainGlobals n=some (some (.ref f))) (l:K.lookup f=some ⟨oc,od, .func (W.fnOf n n (ch_ st) (bC_ st) (af_ st) .none kV dc pm an cd ct),sl⟩) (c:W.codeIn K cd n=true) (k:W.keepIn K (.ref f)=true):Hf K n st f:=⟨a,_,sB_ l c k⟩
theorem s1_ {l:W.OpenLaw}{w:World}{K:W.Frag}{h:Heap}{mg:Str->Option Value}{fa:Addr} (X:K.In h) (G:h.Ns mainGlobals mg) (hfa:mg "law"=some (.ref fa))
  {f0 f1 f2 f3 f4 f5 f6 f7 f8 f9 f10 f11 f12 f13 f14 f15 f16 f17 f18 f19 f20 f21 f22 f23 f24 f25 f26 f27 f28 f29 f30 f31 f32 f33 f34 f35 f36 f37 f38 f39 f40 f41 f42 f43 f44 f45 f46 f47 f48:Addr}
  (h0:Hf K "is_whole" dR_ f0)
  (h1:Hf K "need_between" bZ_ f1)
  (h2:Hf K "need_wide" c8_ f2)
  (h3:Hf K "need_degree" cd_ f3)
  (h4:Hf K "choose" f0_ f4)
  (h5:Hf K "is_row" fZ_ f5)
  (h6:Hf K "row_weight" bu_ f6)
  (h7:Hf K "need_rows" c9_ f7)
  (h8:Hf K "with_more" c7_ f8)
  (h9:Hf K "product_of" cv_ f9)
  (h10:Hf K "filled_up" da_ f10)
  (h11:Hf K "rows_within" bI_ f11)
  (h12:Hf K "rows_beyond" cb_ f12)
  (h13:Hf K "choices" eK_ f13)
  (h14:Hf K "weights_gained" bz_ f14)
  (h15:Hf K "with_one_held" bO_ f15)
  (h16:Hf K "with_one_degree_fewer" aR_ f16)
  (h17:Hf K "summands" dQ_ f17)
  (h18:Hf K "counted" eJ_ f18)
  (h19:Hf K "asked_of" dT_ f19)
  (h20:Hf K "by_ends" eL_ f20)
  (h21:Hf K "points_through" bA_ f21)
  (h22:Hf K "count_row" dc_ f22)
  (h23:Hf K "rows_up_to" cu_ f23)
  (h24:Hf K "by_degree" dd_ f24)
  (h25:Hf K "as_table" dU_ f25)
  (h26:Hf K "table_of_counts" bn_ f26)
  (h27:Hf K "ends_at" eI_ f27)
  (h28:Hf K "sound" iH_ f28)
  (h29:Hf K "lost" lL_ f29)
  (h30:Hf K "lifts_from" cx_ f30)
  (h31:Hf K "leaving" eH_ f31)
  (h32:Hf K "with_floor" bt_ f32)
  (h33:Hf K "drawings" cO_ f33)
  (h34:Hf K "worth" iG_ f34)
  (h35:Hf K "need_sound" cw_ f35)
  (h36:Hf K "end_marks" db_ f36)
  (h37:Hf K "put_between" cc_ f37)
  (h38:Hf K "how_many_orders" bo_ f38)
  (h39:Hf K "how_many" dS_ f39)
  (h40:Hf K "count_by_floors" a6_ f40)
  (h41:Hf K "_law_cell_at" b1_ f41)
  (h42:Hf K "_law_great" cy_ f42)
  (h43:Hf K "_law_digit" cz_ f43)
  (h44:Hf K "_law_due" dW_ f44)
  (h45:Hf K "_law_is_table" bc_ f45)
  (h46:Hf K "_law_odd" dV_ f46)
  (h47:Hf K "_law_refused" b0_ f47)
  (h48:Hf K "law" p3_ f48)
  (zz:∀n∈["isinstance","int","bool","range","list","sum","enumerate","tuple","len","min","zip","sorted","set","any","ValueError"],W.nsIn K mainGlobals n=some none)
  {A_WIDE:Addr} (da_WIDE:W.nsIn K mainGlobals "WIDE"=some (some (.ref A_WIDE))) (dt_WIDE:km_ K A_WIDE [(1,6),(2,6),(3,6),(4,6),(5,3)]=true)
  {C_NoBound:Addr} (ca_NoBound:W.nsIn K mainGlobals "NoBound"=some (some (.ref C_NoBound)))
  {C_NoEnds:Addr} (ca_NoEnds:W.nsIn K mainGlobals "NoEnds"=some (some (.ref C_NoEnds)))
  {C_NoDrawing:Addr} (ca_NoDrawing:W.nsIn K mainGlobals "NoDrawing"=some (some (.ref C_NoDrawing)))
  {C_CurveError:Addr} (ca_CurveError:W.nsIn K mainGlobals "CurveError"=some (some (.ref C_CurveError)))
  {C_NoNumber:Addr} (ca_NoNumber:W.nsIn K mainGlobals "NoNumber"=some (some (.ref C_NoNumber)))
  {C_NoText:Addr} (ca_NoText:W.nsIn K mainGlobals "NoText"=some (some (.ref C_NoText)))
  (cx_NoBound:W.excIn K C_NoBound bmV "ValueError.__new__"=true) (xc_NoBound:XC K C_NoBound)
  (cx_NoEnds:W.excIn K C_NoEnds bmV "ValueError.__new__"=true) (xc_NoEnds:XC K C_NoEnds)
  (cx_NoDrawing:W.excIn K C_NoDrawing bmV "ValueError.__new__"=true) (xc_NoDrawing:XC K C_NoDrawing)
  (ce_NoBound_CurveError:W.exmOne K (.ref C_NoBound) (.ref C_CurveError)=some true)
  (ce_NoEnds_CurveError:W.exmOne K (.ref C_NoEnds) (.ref C_CurveError)=some true)
  (ce_NoDrawing_CurveError:W.exmOne K (.ref C_NoDrawing) (.ref C_CurveError)=some true)
  (ck_NoBound_NoBound:W.kitOne K (.ref C_NoBound) (.ref C_NoBound)=some true)
  (ck_NoBound_ValueError:W.kitOne K (.ref C_NoBound) (.type "ValueError")=some true)
  (ck_NoEnds_NoBound:W.kitOne K (.ref C_NoEnds) (.ref C_NoBound)=some false)
  (ck_NoEnds_ValueError:W.kitOne K (.ref C_NoEnds) (.type "ValueError")=some true)
  (ck_NoDrawing_NoBound:W.kitOne K (.ref C_NoDrawing) (.ref C_NoBound)=some false)
  (ck_NoDrawing_ValueError:W.kitOne K (.ref C_NoDrawing) (.type "ValueError")=some true)
  (cs_NoBound_0:W.kitAny K (.ref C_NoBound) [(.ref C_NoDrawing),(.ref C_NoEnds),(.ref C_NoNumber),(.ref C_NoText)]=some false)
  (cs_NoEnds_1:W.kitAny K (.ref C_NoEnds) [(.ref C_NoDrawing),(.ref C_NoEnds),(.ref C_NoNumber),(.ref C_NoText)]=some true)
  (cs_NoDrawing_2:W.kitAny K (.ref C_NoDrawing) [(.ref C_NoDrawing),(.ref C_NoEnds),(.ref C_NoNumber),(.ref C_NoText)]=some true)
  :∃fd:FuncData,(∀(s:Shared) (v:Value),BindsTo s fd ⟨[v],[]⟩ [("_law_script",v)])/\∀base:Heap,K.In base->base.Ns mainGlobals mg->FnOk l.prog w K mg base CX0 59 fa fd ["_law_script"] (jy_ K):=by
 obtain⟨a0,d0,F0⟩:=h0;obtain⟨a1,d1,F1⟩:=h1;obtain⟨a2,d2,F2⟩:=h2;obtain⟨a3,d3,F3⟩:=h3;obtain⟨a4,d4,F4⟩:=h4;obtain⟨a5,d5,F5⟩:=h5;obtain⟨a6,d6,F6⟩:=h6;obtain⟨a7,d7,F7⟩:=h7;obtain⟨a8,d8,F8⟩:=h8;obtain⟨a9,d9,F9⟩:=h9;obtain⟨a10,d10,F10⟩:=h10;obtain⟨a11,d11,F11⟩:=h11;obtain⟨a12,d12,F12⟩:=h12;obtain⟨a13,d13,F13⟩:=h13;obtain⟨a14,d14,F14⟩:=h14;obtain⟨a15,d15,F15⟩:=h15;obtain⟨a16,d16,F16⟩:=h16;obtain⟨a17,d17,F17⟩:=h17;obtain⟨a18,d18,F18⟩:=h18;obtain⟨a19,d19,F19⟩:=h19;obtain⟨a20,d20,F20⟩:=h20;obtain⟨a21,d21,F21⟩:=h21;obtain⟨a22,d22,F22⟩:=h22;obtain⟨a23,d23,F23⟩:=h23;obtain⟨a24,d24,F24⟩:=h24;obtain⟨a25,d25,F25⟩:=h25;obtain⟨a26,d26,F26⟩:=h26;obtain⟨a27,d27,F27⟩:=h27;obtain⟨a28,d28,F28⟩:=h28;obtain⟨a29,d29,F29⟩:=h29;obtain⟨a30,d30,F30⟩:=h30;obtain⟨a31,d31,F31⟩:=h31;obtain⟨a32,d32,F32⟩:=h32;obtain⟨a33,d33,F33⟩:=h33;obtain⟨a34,d34,F34⟩:=h34;obtain⟨a35,d35,F35⟩:=h35;obtain⟨a36,d36,F36⟩:=h36;obtain⟨a37,d37,F37⟩:=h37;obtain⟨a38,d38,F38⟩:=h38;obtain⟨a39,d39,F39⟩:=h39;obtain⟨a40,d40,F40⟩:=h40;obtain⟨a41,d41,F41⟩:=h41;obtain⟨a42,d42,F42⟩:=h42;obtain⟨a43,d43,F43⟩:=h43;obtain⟨a44,d44,F44⟩:=h44;obtain⟨a45,d45,F45⟩:=h45;obtain⟨a46,d46,F46⟩:=h46;obtain⟨a47,d47,F47⟩:=h47;obtain⟨a48,d48,F48⟩:=h48;cases hfa.symm.trans (W.mg_of X G a48);have Wq:=F48;obtain⟨_,_,_,_,_,_,_,_,_,rfl,_⟩:=F48.ex;have g {n:Str}{v:Value} (e:W.nsIn K mainGlobals n=some (some v)):mg n=some v:=W.mg_of X G e;exact⟨_,fun s v=> .of_eq rfl,fun base _ _=>sb_ (⟨f0,_,f1,_,f2,_,f3,_,f4,_,f5,_,f6,_,f7,_,f8,_,f9,_,f10,_,f11,_,f12,_,f13,_,f14,_,f15,_,f16,_,f17,_,f18,_,f19,_,f20,_,f21,_,f22,_,f23,_,f24,_,f25,_,f26,_,f27,_,f28,_,f29,_,f30,_,f31,_,f32,_,f33,_,f34,_,f35,_,f36,_,f37,_,f38,_,f39,_,f40,_,f41,_,f42,_,f43,_,f44,_,f45,_,f46,_,f47,_,fa,_,fb1 F0 (g a0) rfl fun _ _ _ _ _ _ _=>rfl,fb3 F1 (g a1) rfl fun _ _ _ _ _ _ _ _ _=>rfl,fb2 F2 (g a2) rfl fun _ _ _ _ _ _ _ _=>rfl,fb1 F3 (g a3) rfl fun _ _ _ _ _ _ _=>rfl,fb2 F4 (g a4) rfl fun _ _ _ _ _ _ _ _=>rfl,fb1 F5 (g a5) rfl fun _ _ _ _ _ _ _=>rfl,fb1 F6 (g a6) rfl fun _ _ _ _ _ _ _=>rfl,fb3 F7 (g a7) rfl fun _ _ _ _ _ _ _ _ _=>rfl,fb3 F8 (g a8) rfl fun _ _ _ _ _ _ _ _ _=>rfl,fb1 F9 (g a9) rfl fun _ _ _ _ _ _ _=>rfl,fb2 F10 (g a10) rfl fun _ _ _ _ _ _ _ _=>rfl,fb1 F11 (g a11) rfl fun _ _ _ _ _ _ _=>rfl,fb3 F12 (g a12) rfl fun _ _ _ _ _ _ _ _ _=>rfl,fb2 F13 (g a13) rfl fun _ _ _ _ _ _ _ _=>rfl,fb2 F14 (g a14) rfl fun _ _ _ _ _ _ _ _=>rfl,fb4 F15 (g a15) rfl fun _ _ _ _ _ _ _ _ _ _=>rfl,fb4 F16 (g a16) rfl fun _ _ _ _ _ _ _ _ _ _=>rfl,fb1 F17 (g a17) rfl fun _ _ _ _ _ _ _=>rfl,fb2 F18 (g a18) rfl fun _ _ _ _ _ _ _ _=>rfl,fb4 F19 (g a19) rfl fun _ _ _ _ _ _ _ _ _ _=>rfl,fb4 F20 (g a20) rfl fun _ _ _ _ _ _ _ _ _ _=>rfl,fb2 F21 (g a21) rfl fun _ _ _ _ _ _ _ _=>rfl,fb2 F22 (g a22) rfl fun _ _ _ _ _ _ _ _=>rfl,fb1 F23 (g a23) rfl fun _ _ _ _ _ _ _=>rfl,fb2 F24 (g a24) rfl fun _ _ _ _ _ _ _ _=>rfl,fb1 F25 (g a25) rfl fun _ _ _ _ _ _ _=>rfl,fb1 F26 (g a26) rfl fun _ _ _ _ _ _ _=>rfl,fb2 F27 (g a27) rfl fun _ _ _ _ _ _ _ _=>rfl,fb2 F28 (g a28) rfl fun _ _ _ _ _ _ _ _=>rfl,fb1 F29 (g a29) rfl fun _ _ _ _ _ _ _=>rfl,fb4 F30 (g a30) rfl fun _ _ _ _ _ _ _ _ _ _=>rfl,fb3 F31 (g a31) rfl fun _ _ _ _ _ _ _ _ _=>rfl,fb4 F32 (g a32) rfl fun _ _ _ _ _ _ _ _ _ _=>rfl,fb2 F33 (g a33) rfl fun _ _ _ _ _ _ _ _=>rfl,fb1 F34 (g a34) rfl fun _ _ _ _ _ _ _=>rfl,fb2 F35 (g a35) rfl fun _ _ _ _ _ _ _ _=>rfl,fb2 F36 (g a36) rfl fun _ _ _ _ _ _ _ _=>rfl,fb4 F37 (g a37) rfl fun _ _ _ _ _ _ _ _ _ _=>rfl,fb2 F38 (g a38) rfl fun _ _ _ _ _ _ _ _=>rfl,fb2 F39 (g a39) rfl fun _ _ _ _ _ _ _ _=>rfl,fb2 F40 (g a40) rfl fun _ _ _ _ _ _ _ _=>rfl,fb2 F41 (g a41) rfl fun _ _ _ _ _ _ _ _=>rfl,fb1 F42 (g a42) rfl fun _ _ _ _ _ _ _=>rfl,fb2 F43 (g a43) rfl fun _ _ _ _ _ _ _ _=>rfl,fb1 F44 (g a44) rfl fun _ _ _ _ _ _ _=>rfl,fb2 F45 (g a45) rfl fun _ _ _ _ _ _ _ _=>rfl,fb1 F46 (g a46) rfl fun _ _ _ _ _ _ _=>rfl,fb1 F47 (g a47) rfl fun _ _ _ _ _ _ _=>rfl,fb1 Wq (g a48) rfl fun _ _ _ _ _ _ _=>rfl,Ay X G (zz _ (by decide)),Ay X G (zz _ (by decide)),Ay X G (zz _ (by decide)),Ay X G (zz _ (by decide)),Ay X G (zz _ (by decide)),Ay X G (zz _ (by decide)),Ay X G (zz _ (by decide)),Ay X G (zz _ (by decide)),Ay X G (zz _ (by decide)),Ay X G (zz _ (by decide)),Ay X G (zz _ (by decide)),Ay X G (zz _ (by decide)),Ay X G (zz _ (by decide)),Ay X G (zz _ (by decide)),Ay X G (zz _ (by decide)),A_WIDE,g da_WIDE,dt_WIDE,C_NoBound,g ca_NoBound,C_NoEnds,g ca_NoEnds,C_NoDrawing,g ca_NoDrawing,C_CurveError,g ca_CurveError,C_NoNumber,g ca_NoNumber,C_NoText,g ca_NoText,cx_NoBound,xc_NoBound,cx_NoEnds,xc_NoEnds,cx_NoDrawing,xc_NoDrawing,ce_NoBound_CurveError,ce_NoEnds_CurveError,ce_NoDrawing_CurveError,ck_NoBound_NoBound,ck_NoBound_ValueError,ck_NoEnds_NoBound,ck_NoEnds_ValueError,ck_NoDrawing_NoBound,ck_NoDrawing_ValueError,cs_NoBound_0,cs_NoEnds_1,cs_NoDrawing_2⟩:Fns K mg)⟩
theorem walk {l:W.OpenLaw}{q:Program}{loose:List Str}{XP:(Str->Option Value)->Heap->Prop}{YP:World->Heap->Prop}{d:DefRec}{K:Params->W.Frag} (hn:l.most=some 63) (hdf:d.params.defaults=[])
  (hY:∀(w:World) (h:Heap),YP w h->(K w.params).In h)
  (F:∀(w:World) (mg:Str->Option Value) (fa:Addr) (h:Heap),(K w.params).In h->h.Ns mainGlobals mg->mg d.name=some (.ref fa)->
   ∃fd:FuncData,(∀(s:Shared) (u:Value),BindsTo s fd ⟨[u],[]⟩ [("_law_script",u)])/\∀base:Heap,(K w.params).In base->base.Ns mainGlobals mg->FnOk l.prog w (K w.params) mg base CX0 59 fa fd ["_law_script"] (jy_ (K w.params))):
  W.WalkO q loose XP YP l.row.toRowW d [] (fun f vs=>PySem.call f vs):=
 L2.pH_ (n:=63) (k:=59) (x:="_law_script") (CX:=fun _=>CX0) (sp:=fun w=>jy_ (K w.params)) hn (by decide) hdf ⟨rfl,by decide,by decide⟩ hY F (fun _ _ a ns hl _ hS=>⟨a,ns,rfl,hS,hl,fun _=>rfl⟩) fun _ _ _ _ _ z=>z
end Mine
open PySem PySem.W PyProof.Rows
namespace PySem.W.Fast
theorem tw6462798700902613780 : True := trivial
theorem tw16085608359423782256 : True := trivial
theorem tw1247478107486902314 : True := trivial
theorem tw7444526451487999249 : True := trivial
theorem tw15854606927366045855 : True := trivial
theorem tw5630130725732888523 : True := trivial
theorem tw11682106495955014377 : True := trivial
theorem tw11567254685760894607 : True := trivial
theorem tw16891098503793482309 : True := trivial
theorem tw5126409232882664216 : True := trivial
theorem tw2613764541652697729 : True := trivial
theorem tw13136631051410359002 : True := trivial
theorem tw12921944085860502777 : True := trivial
theorem tw9925372352168811090 : True := trivial
theorem tw6556775663134101280 : True := trivial
theorem tw6559030088184314667 : True := trivial
theorem tw6557193504679636497 : True := trivial
theorem tw2850429894956173975 : True := trivial
theorem tw8514529293136395205 : True := trivial
theorem tw17841010667050981461 : True := trivial
theorem tw6451292180687016627 : True := trivial
theorem tw16345173847561326550 : True := trivial
theorem tw9328358984023620634 : True := trivial
theorem tw10609516833537868912 : True := trivial
theorem tw17394107073819456475 : True := trivial
theorem tw26227966813414797 : True := trivial
theorem tw5841264508796637896 : True := trivial
theorem tw12227663219538133935 : True := trivial
theorem tw8154403841066164320 : True := trivial
theorem tw17737233818200697006 : True := trivial
theorem tw364178493183094771 : True := trivial
theorem tw3701583902441610705 : True := trivial
theorem tw16144739000706304975 : True := trivial
theorem tw13102141344666604170 : True := trivial
theorem tw12745797902259309558 : True := trivial
theorem tw8371505992972563429 : True := trivial
theorem tw15073416615849855723 : True := trivial
theorem tw2626394206728249783 : True := trivial
theorem tw13435337332438623173 : True := trivial
theorem tw5188336142667532732 : True := trivial
theorem tw5452382840809809660 : True := trivial
theorem tw10568537066030314415 : True := trivial
theorem tw9263371241268242980 : True := trivial
theorem tw8243619633866202845 : True := trivial
theorem tw4838925369374842573 : True := trivial
theorem tw5854990637497936679 : True := trivial
theorem tw755539676980906809 : True := trivial
theorem tw13999962052872839252 : True := trivial
theorem tw14585259039127738567 : True := trivial
theorem tw16293465250494242852 : True := trivial
theorem tw15806021464494437800 : True := trivial
theorem tw14253320266428925143 : True := trivial
theorem tw17935971080199732620 : True := trivial
theorem tw17762564035266442329 : True := trivial
theorem tw10892718896045010966 : True := trivial
theorem tw4103169979468450650 : True := trivial
theorem tw1805179230778969213 : True := trivial
theorem tw16609781142138946386 : True := trivial
theorem tw14774488509748713577 : True := trivial
theorem tw3109182524980556558 : True := trivial
theorem tw13707699057407864391 : True := trivial
theorem tw12569713495866085909 : True := trivial
theorem tw5852539704665928070 : True := trivial
theorem tw5408400434990775993 : True := trivial
theorem tw11233055270610196353 : True := trivial
theorem tw14918446873675812313 : True := trivial
theorem tw14412948464045756894 : True := trivial
theorem tw14175758363823853566 : True := trivial
theorem tw6782916755835359303 : True := trivial
theorem tw3087197723650911882 : True := trivial
theorem tw12991925380622751080 : True := trivial
theorem tw3463203763636796090 : True := trivial
theorem tw8742477982201839802 : True := trivial
theorem tw3749647815213796163 : True := trivial
theorem tw2517557483012910035 : True := trivial
theorem tw14532518172262347135 : True := trivial
theorem tw10007997488812053705 : True := trivial
theorem tw8031121264827157121 : True := trivial
theorem tw8752845644535257016 : True := trivial
theorem tw355179125517344059 : True := trivial
theorem tw12945548237310439183 : True := trivial
theorem tw14394239258630792254 : True := trivial
theorem tw249333106165355869 : True := trivial
theorem tw10166027640965343360 : True := trivial
theorem tw6968770644414177737 : True := trivial
theorem tw9156327234233486870 : True := trivial
theorem tw3493646581224666574 : True := trivial
theorem tw2632870597536786365 : True := trivial
theorem tw16304165545401285612 : True := trivial
theorem tw10645259513039208909 : True := trivial
theorem tw9369483165127821358 : True := trivial
theorem tw12641444652782680720 : True := trivial
theorem tw12620764371681303964 : True := trivial
theorem tw10723388665771070516 : True := trivial
theorem tw13505249207498218695 : True := trivial
theorem tw4270545102301873780 : True := trivial
theorem tw4803288861324824965 : True := trivial
theorem tw16635331992751665101 : True := trivial
theorem tw7495365679910823529 : True := trivial
theorem tw16309434956543948930 : True := trivial
theorem tw10236733264600750504 : True := trivial
theorem tw15331650183284786299 : True := trivial
theorem tw14776948158683627458 : True := trivial
theorem tw7162666197982135391 : True := trivial
theorem tw13037152744335795239 : True := trivial
theorem tw9877401563256944130 : True := trivial
theorem tw3284120594763562778 : True := trivial
theorem tw10777239047477669654 : True := trivial
theorem tw13601138294354223753 : True := trivial
theorem tw13618220759508837466 : True := trivial
theorem tw11600678714022595552 : True := trivial
theorem tw12608475917852301438 : True := trivial
theorem tw6351962519139765141 : True := trivial
theorem tw15832877571472065920 : True := trivial
theorem tw791772485665601005 : True := trivial
theorem tw7686320363664520372 : True := trivial
theorem tw6055904062979797582 : True := trivial
theorem tw4248731195439213587 : True := trivial
theorem tw9340141761246155328 : True := trivial
theorem tw12686735036601887886 : True := trivial
theorem tw12608262525080565651 : True := trivial
theorem tw8824762090533863516 : True := trivial
theorem tw6741751922406915806 : True := trivial
theorem tw13212066085171998687 : True := trivial
theorem tw2248194611295729526 : True := trivial
theorem tw11354583716472003726 : True := trivial
theorem tw15634477291141029019 : True := trivial
theorem tw147862670722339321 : True := trivial
theorem tw17233192147931487906 : True := trivial
theorem tw5967440385810067853 : True := trivial
theorem tw4006168620376608126 : True := trivial
theorem tw570327185112411089 : True := trivial
theorem tw16174783966299552742 : True := trivial
theorem tw8718749293630393018 : True := trivial
theorem tw4758797228425301959 : True := trivial
theorem tw15251473087425104694 : True := trivial
theorem tw7065048185389078232 : True := trivial
theorem tw1784665486634035856 : True := trivial
theorem tw3145502516933054320 : True := trivial
theorem tw7695153677479431780 : True := trivial
theorem tw14372231088265583846 : True := trivial
theorem tw367628030617227206 : True := trivial
theorem tw16061804458189832740 : True := trivial
theorem tw5131097749682658325 : True := trivial
theorem tw11403692691794105275 : True := trivial
theorem tw16895711517126963552 : True := trivial
theorem tw1576331940018123062 : True := trivial
theorem tw14950479453499282296 : True := trivial
theorem tw13971385002374872568 : True := trivial
theorem tw6539280971954690764 : True := trivial
theorem tw17080224542569551880 : True := trivial
theorem tw3664845390976702254 : True := trivial
theorem tw13251356484063695170 : True := trivial
theorem tw13882591692306142700 : True := trivial
theorem tw13306249456431934309 : True := trivial
theorem tw6483092059408512161 : True := trivial
theorem tw14319290883850953571 : True := trivial
theorem tw12231722995550985289 : True := trivial
theorem tw16303671068222486730 : True := trivial
theorem tw5632901616665655662 : True := trivial
theorem tw15905863016090058361 : True := trivial
theorem tw15572643762900755330 : True := trivial
theorem tw2496828193233376199 : True := trivial
theorem tw6615504495983443711 : True := trivial
theorem tw1839777249788901472 : True := trivial
theorem tw16034259900544176293 : True := trivial
theorem tw7195251663713521637 : True := trivial
theorem tw14102569185965286012 : True := trivial
theorem tw498430795751465263 : True := trivial
theorem tw16790823783791504886 : True := trivial
theorem tw5603859651335727976 : True := trivial
theorem tw3483916233273171385 : True := trivial
theorem tw8586538361121835438 : True := trivial
theorem tw205651412147007488 : True := trivial
theorem tw16839632041365079246 : True := trivial
theorem tw5484828961352662539 : True := trivial
theorem tw3589785329016412984 : True := trivial
theorem tw12540105424596563699 : True := trivial
theorem tw11229239801509787349 : True := trivial
theorem tw18086056670489684450 : True := trivial
theorem tw3835337686938625413 : True := trivial
theorem tw11096413075219557145 : True := trivial
theorem tw6278733401351066638 : True := trivial
theorem tw10489879264351245424 : True := trivial
theorem tw11615334895139658616 : True := trivial
theorem tw6721402194029353936 : True := trivial
theorem tw14830576733461500816 : True := trivial
theorem tw652550484175515344 : True := trivial
theorem tw7720525119130493588 : True := trivial
theorem tw5428157480221938098 : True := trivial
theorem tw17750979334509834168 : True := trivial
theorem tw14526534307161887392 : True := trivial
theorem tw1806873593362773120 : True := trivial
theorem tw14120634207123157327 : True := trivial
theorem tw2384795463167429168 : True := trivial
theorem tw8433309324895433976 : True := trivial
theorem tw11234679889562969502 : True := trivial
theorem tw5253731442072239703 : True := trivial
theorem tw7356823954915714702 : True := trivial
theorem tw4558654588535484531 : True := trivial
theorem tw9674103068785224705 : True := trivial
theorem tw9518338269992189399 : True := trivial
theorem tw14861714861834231785 : True := trivial
theorem tw6003472986525428997 : True := trivial
theorem tw13780859170035753230 : True := trivial
theorem tw1981469324394313521 : True := trivial
theorem tw13542594826050148341 : True := trivial
theorem tw5726895148092301189 : True := trivial
theorem tw17110500253468273014 : True := trivial
theorem tw9931559646662792403 : True := trivial
theorem tw61507175225490548 : True := trivial
theorem tw12703266300017014109 : True := trivial
theorem tw17926342845565531715 : True := trivial
theorem tw4941327096862516384 : True := trivial
theorem tw9871973159197329066 : True := trivial
theorem tw1660477629313852436 : True := trivial
theorem tw12711146633216607115 : True := trivial
theorem tw13022746823650597448 : True := trivial
theorem tw14553376731022398584 : True := trivial
theorem tw11804586850857892299 : True := trivial
theorem tw12016017654842416723 : True := trivial
theorem tw11982523521650043525 : True := trivial
theorem tw9569214516402441642 : True := trivial
theorem tw14748109128256249102 : True := trivial
theorem tw8949343655787907108 : True := trivial
theorem tw12410097665476282644 : True := trivial
theorem tw16028421420999034256 : True := trivial
theorem tw10103586784689487698 : True := trivial
theorem tw3058253577672496915 : True := trivial
theorem tw17071436947864646425 : True := trivial
theorem tw15364023487406865440 : True := trivial
theorem tw11427333278190287426 : True := trivial
theorem tw4979449665278910463 : True := trivial
theorem tw4987238522281770194 : True := trivial
theorem tw3498759044524463047 : True := trivial
theorem tw6321694026761798319 : True := trivial
theorem tw5771446676193106559 : True := trivial
theorem tw2818721180583762003 : True := trivial
theorem tw1505049351876882637 : True := trivial
theorem tw6071070910747993997 : True := trivial
theorem tw4194580915007685532 : True := trivial
theorem tw11339470279355529137 : True := trivial
theorem tw10347703737054251316 : True := trivial
theorem tw13509782338050191001 : True := trivial
theorem tw14324822298629975795 : True := trivial
theorem tw16819594671260369920 : True := trivial
theorem tw12209789410869643740 : True := trivial
theorem tw14862558574867095246 : True := trivial
theorem tw17962385734884347849 : True := trivial
theorem tw17175403274201789076 : True := trivial
theorem tw14932940832722650020 : True := trivial
theorem tw16738520440168263543 : True := trivial
theorem tw2069348123693899882 : True := trivial
theorem tw15432983244737412425 : True := trivial
theorem tw4215253371353303172 : True := trivial
theorem tw10638491102426987573 : True := trivial
theorem tw17393013743832947094 : True := trivial
theorem tw5098288337329249812 : True := trivial
theorem tw13316085303296967358 : True := trivial
theorem tw660594025577466572 : True := trivial
theorem tw14996892219837748952 : True := trivial
theorem tw15248192622677918270 : True := trivial
theorem tw15629264618997264387 : True := trivial
theorem tw14911654035718759919 : True := trivial
theorem tw17146574592372129519 : True := trivial
theorem tw4011585719447900285 : True := trivial
theorem tw4006130095975871611 : True := trivial
theorem tw10504995735620965762 : True := trivial
theorem tw1608010682190609601 : True := trivial
theorem tw17896060194197428477 : True := trivial
theorem tw10544324758471825876 : True := trivial
theorem tw17984400807635848065 : True := trivial
theorem tw11211416384726023512 : True := trivial
theorem tw11461359214999855901 : True := trivial
theorem tw9832534321377592218 : True := trivial
theorem tw13763124398620446629 : True := trivial
theorem tw1178130852553973923 : True := trivial
theorem tw3326642985091607331 : True := trivial
theorem tw16103727170425966216 : True := trivial
theorem tw11186255011238750818 : True := trivial
theorem tw11004751105286415403 : True := trivial
theorem tw15669452094183312121 : True := trivial
theorem tw17627305228708955398 : True := trivial
theorem tw430369326590075348 : True := trivial
theorem tw1176411566027712338 : True := trivial
theorem tw12270635181741433346 : True := trivial
theorem tw2544262911767281465 : True := trivial
theorem tw6628555638740998852 : True := trivial
theorem tw6991065032855396628 : True := trivial
theorem tw14145866594700585214 : True := trivial
theorem tw12950986653597765042 : True := trivial
theorem tw15204159508863451963 : True := trivial
theorem tw7445668574592378057 : True := trivial
theorem tw9952966891830670297 : True := trivial
theorem tw4825014407793884417 : True := trivial
theorem tw5378423694467831016 : True := trivial
theorem tw5720970055120160513 : True := trivial
theorem tw14166362614368166032 : True := trivial
theorem tw18223921632258815268 : True := trivial
theorem tw10667449072663189203 : True := trivial
theorem tw931438544428520161 : True := trivial
theorem tw3686958722825266513 : True := trivial
theorem tw903585591985147057 : True := trivial
theorem tw9697407345570881280 : True := trivial
theorem tw15633243641363798619 : True := trivial
theorem tw5956599554539621505 : True := trivial
theorem tw18298854728504749180 : True := trivial
theorem tw14945111278262625032 : True := trivial
theorem tw14107004353158401161 : True := trivial
theorem tw8385487086255636258 : True := trivial
theorem tw1638643021912908489 : True := trivial
theorem tw2201149519034736976 : True := trivial
theorem tw11832287795446904621 : True := trivial
theorem tw17290299211129090048 : True := trivial
theorem tw9083422606389405109 : True := trivial
theorem tw6433835467843518513 : True := trivial
theorem tw17667183174262301026 : True := trivial
theorem tw2302939199667069217 : True := trivial
theorem tw8615178527834596510 : True := trivial
theorem tw16027110346253001287 : True := trivial
theorem tw12340889628717859927 : True := trivial
theorem tw4649581012665459315 : True := trivial
theorem tw6233416718713602398 : True := trivial
theorem tw12717923262552564369 : True := trivial
theorem tw15450600552947705237 : True := trivial
theorem tw1289669385708459628 : True := trivial
theorem tw6691813625431940837 : True := trivial
theorem tw2614811585218238744 : True := trivial
theorem tw7535443375334998176 : True := trivial
theorem tw1985738059550933702 : True := trivial
theorem tw8969407365097572966 : True := trivial
theorem tw12219125622131907563 : True := trivial
theorem tw1025898111831770255 : True := trivial
theorem tw15613253144060752000 : True := trivial
theorem tw7048713971300465917 : True := trivial
theorem tw9291078491644620145 : True := trivial
theorem tw15356591786597344503 : True := trivial
theorem tw5962427334148357291 : True := trivial
theorem tw8075835369872398887 : True := trivial
theorem tw8233304791620988885 : True := trivial
theorem tw3818347167699483789 : True := trivial
theorem tw6726193190439215974 : True := trivial
theorem tw7556463355739662016 : True := trivial
theorem tw6189176490895507955 : True := trivial
theorem tw12428410110088451010 : True := trivial
theorem tw2886277409542710504 : True := trivial
theorem tw2317748787284687360 : True := trivial
theorem tw14963737217018322481 : True := trivial
theorem tw3860871121651937973 : True := trivial
theorem tw6973173497765655378 : True := trivial
theorem tw2807448510406959493 : True := trivial
theorem tw891424808161872621 : True := trivial
theorem tw15725600241248696439 : True := trivial
theorem tw13159838064194063349 : True := trivial
theorem tw7989950342580721386 : True := trivial
theorem tw10445774869191473780 : True := trivial
theorem tw11976094412802691035 : True := trivial
theorem tw9610561495789594435 : True := trivial
theorem tw10332052207342881672 : True := trivial
theorem tw4565113134629990768 : True := trivial
theorem tw4330929022783516199 : True := trivial
theorem tw3648526615141909300 : True := trivial
theorem tw5357865257045501518 : True := trivial
theorem tw7932040762158042208 : True := trivial
theorem tw10111229614333259699 : True := trivial
theorem tw12044975475025762193 : True := trivial
theorem tw3530673511599717489 : True := trivial
theorem tw15920904899425418766 : True := trivial
theorem tw5748062675781152798 : True := trivial
theorem tw2200854533435062904 : True := trivial
theorem tw6914492971513875001 : True := trivial
theorem tw12671916899548996929 : True := trivial
theorem tw14736284446092585621 : True := trivial
theorem tw3566513260538986645 : True := trivial
theorem tw5199424167029728629 : True := trivial
theorem tw7597543650550937251 : True := trivial
theorem tw8240054561992670541 : True := trivial
theorem tw6680649607856532763 : True := trivial
theorem tw16290029023961081871 : True := trivial
theorem tw3703354224049160255 : True := trivial
theorem tw15662632357776480658 : True := trivial
theorem tw7953571328586236973 : True := trivial
theorem tw18067554286013377676 : True := trivial
theorem tw15794304492455337061 : True := trivial
theorem tw6891862770448586168 : True := trivial
theorem tw7064197905940472718 : True := trivial
theorem tw18192914523148314461 : True := trivial
theorem tw6444234358122641304 : True := trivial
theorem tw11288571825017462420 : True := trivial
theorem tw8608270926215193356 : True := trivial
theorem tw13294994257817623255 : True := trivial
theorem tw5963564820648296903 : True := trivial
theorem tw3050251056715358996 : True := trivial
theorem tw9027964713378507430 : True := trivial
theorem tw14844426153221759052 : True := trivial
theorem tw897531836256849277 : True := trivial
end PySem.W.Fast
set_option maxRecDepth 100000 in
set_option maxHeartbeats 0 in
theorem PySem.Challenge.cw_floorcurves_k50_table_of_counts_holds : PySem.Challenge.rw_floorcurves_k50_table_of_counts.Holds := by
 w_on; o_law; k_head; (case hw => w_witness2)
 k_fill
 refine Mine.walk (l := PySem.Challenge.rw_floorcurves_k50_table_of_counts) rfl rfl (fun w h Y => PySem.W.kIn_of Y) ?F
 case F =>
  intro w mg fa h KX G hmg
  refine' Mine.s1_ KX G hmg ?h0 ?h1 ?h2 ?h3 ?h4 ?h5 ?h6 ?h7 ?h8 ?h9 ?h10 ?h11 ?h12 ?h13 ?h14 ?h15 ?h16 ?h17 ?h18 ?h19 ?h20 ?h21 ?h22 ?h23 ?h24 ?h25 ?h26 ?h27 ?h28 ?h29 ?h30 ?h31 ?h32 ?h33 ?h34 ?h35 ?h36 ?h37 ?h38 ?h39 ?h40 ?h41 ?h42 ?h43 ?h44 ?h45 ?h46 ?h47 ?h48 ?zz ?da_WIDE ?dt_WIDE ?ca_NoBound ?ca_NoEnds ?ca_NoDrawing ?ca_CurveError ?ca_NoNumber ?ca_NoText ?cx_NoBound ?xc_NoBound ?cx_NoEnds ?xc_NoEnds ?cx_NoDrawing ?xc_NoDrawing ?ce_NoBound_CurveError ?ce_NoEnds_CurveError ?ce_NoDrawing_CurveError ?ck_NoBound_NoBound ?ck_NoBound_ValueError ?ck_NoEnds_NoBound ?ck_NoEnds_ValueError ?ck_NoDrawing_NoBound ?ck_NoDrawing_ValueError ?cs_NoBound_0 ?cs_NoEnds_1 ?cs_NoDrawing_2
  (case h0 | h1 | h2 | h3 | h4 | h5 | h6 | h7 | h8 | h9 | h10 | h11 | h12 | h13 | h14 | h15 | h16 | h17 | h18 | h19 | h20 | h21 | h22 | h23 | h24 | h25 | h26 | h27 | h28 | h29 | h30 | h31 | h32 | h33 | h34 | h35 | h36 | h37 | h38 | h39 | h40 | h41 | h42 | h43 | h44 | h45 | h46 | h47 | h48 => refine' Mine.up_ ?a ?l ?c ?k; (case a => k_is); (case l => k_is); (case c => k_is); (case k => k_is))
  (case zz => intro n hn; simp only [List.mem_cons, List.not_mem_nil, or_false] at hn; rcases hn with rfl | rfl | rfl | rfl | rfl | rfl | rfl | rfl | rfl | rfl | rfl | rfl | rfl | rfl | rfl <;> k_is)
  (case da_WIDE => k_is)
  (case dt_WIDE => first | k_is | kit_is | kts_exm | kernel_rfl)
  (case ca_NoBound | ca_NoEnds | ca_NoDrawing | ca_CurveError | ca_NoNumber | ca_NoText | cx_NoBound | cx_NoEnds | cx_NoDrawing => first | k_is | kit_is | kts_exm | kernel_rfl)
  (case xc_NoBound | xc_NoEnds | xc_NoDrawing => constructor <;> first | k_is | kit_is | kts_exm | kernel_rfl)
  (case ce_NoBound_CurveError | ce_NoEnds_CurveError | ce_NoDrawing_CurveError | ck_NoBound_NoBound | ck_NoBound_ValueError | ck_NoEnds_NoBound | ck_NoEnds_ValueError | ck_NoDrawing_NoBound | ck_NoDrawing_ValueError | cs_NoBound_0 | cs_NoEnds_1 | cs_NoDrawing_2 => first | k_is | kit_is | kts_exm | kernel_rfl)
#print axioms PySem.Challenge.cw_floorcurves_k50_table_of_counts_holds
