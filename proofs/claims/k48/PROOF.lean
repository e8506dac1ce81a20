import PyProof.Rows.All
import Wide.All
import OpenK.AllK
import Wide.FinOn
import PySem.Challenge.RW_floorcurves_k48_ends_refused
import Lean
import PyProof.EqAt
import PyProof.EqKinds
import PyProof.TupleCall
local macro_rules | `(tactic| lia) => `(tactic| first | lia -verbose | omega)
local macro_rules | `(tactic| ac_nf) => `(tactic| decide +kernel)
local macro_rules | `(tactic| trivial) => `(tactic| first | exact Or.inl rfl | exact Or.inr rfl)
abbrev A0:=@PySem.wpAny_bind
abbrev A1:=@List.length_map
abbrev A2:=@PySem.wpAny_pure
abbrev A3:=@List.getElem?_eq_getElem
abbrev A4:=@PySem.Heap.get?_push_of_some
abbrev A5:=@List.getD_eq_getElem?_getD
abbrev A6:=@List.getElem?_map
abbrev A7:=@Nat.le_refl
abbrev A8:=@Option.map_eq_some_iff
abbrev A9:=@if_neg
abbrev AA:=@if_pos
abbrev AB:=@List.length_append
abbrev AC:=@List.size_toArray
abbrev AD:=@List.getElem?_eq_some_iff
abbrev AE:=@PySem.Heap.get?_push_size
abbrev AF:=@Bool.false_eq_true
abbrev AG:=@PySem.Heap.lt_size
abbrev AH:=@List.map_append
abbrev AI:=@List.mem_cons
abbrev AJ:=@Nat.ne_of_lt
abbrev AK:=@Nat.zero_le
abbrev AL:=@List.length_cons
abbrev AM:=@Bool.false_ne_true
abbrev AN:=@Bool.and_eq_true
abbrev AO:=@List.map_cons
abbrev AQ:=@PySem.PassesOwn.never
abbrev AR:=@List.mem_cons_of_mem
abbrev AS:=@List.mem_of_getElem?
abbrev AT:=@List.take_length
abbrev AU:=@List.mem_cons_self
abbrev AV:=@Nat.lt_succ_of_lt
abbrev AW:=@List.take_add_one
abbrev AX:=@Nat.lt_of_lt_of_le
abbrev AY:=@PySem.wpAny_call_entry
abbrev AZ:=@Nat.le_of_lt
abbrev Aa:=@Array.getElem?_eq_getElem
abbrev Ab:=@PySem.F.plainAttrs_list
abbrev Ac:=@Option.some.inj
abbrev Ad:=@List.length_take
abbrev Ae:=@List.sum_cons
abbrev Af:=@List.mem_range
abbrev Ag:=@List.append_nil
abbrev Ah:=@if_false
abbrev Ai:=@Int.toNat_natCast
abbrev Aj:=@PySem.wpAny_newObj_type
abbrev Ak:=@decide_eq_false
abbrev Al:=@List.mem_map
abbrev Am:=@List.not_mem_nil
abbrev An:=@PySem.wpAny_holding
abbrev Ao:=@Int.eq_ofNat_of_zero_le
abbrev Ap:=@PySem.wpAny_callSpecial?_slot
abbrev Aq:=@List.mem_singleton
abbrev Ar:=@PySem.Heap.size_push
abbrev As:=@PySem.sizeLine_eq
abbrev At:=@of_decide_eq_true
abbrev Au:=@Option.some.injEq
abbrev Av:=@List.all_eq_true
abbrev Aw:=@PySem.W.mg_none_of
abbrev Ax:=@PySem.Heap.size_update
abbrev Ay:=@PySem.Heap.get?_push_ne
abbrev Az:=@Nat.le_trans
abbrev B0:=@PySem.Heap.SameBut.update
abbrev B1:=@Array.length_toList
abbrev B2:=@List.append_assoc
abbrev B3:=@List.mem_append_right
abbrev B4:=@PySem.wpAny_Call_Name_kw
abbrev B5:=@List.flatMap_append
abbrev B6:=@List.range_succ
abbrev B7:=@List.mem_flatMap
abbrev B8:=@List.length_nil
abbrev B9:=@Bool.not_true
abbrev B':=@PyProof.Rows.callWith_type1
abbrev BA:=@PyProof.Rows.slot_tuple_getitem
abbrev BB:=@PySem.wpAny_setState_of
abbrev BC:=@decide_eq_true
abbrev BD:=@List.getElem?_append_right
abbrev BE:=@Prod.mk.injEq
abbrev BF:=@Nat.lt_succ_self
abbrev BG:=@PySem.wpAny_mono
abbrev BH:=@PySem.F.slot_dict_valueiterator_next
abbrev BI:=@List.replicate_succ
abbrev BJ:=@List.length_range
abbrev BK:=@List.flatMap_cons
abbrev BL:=@List.length_singleton
abbrev BM:=@List.length_replicate
abbrev BN:=@PySem.F.type_list_append
abbrev BO:=@PySem.F.slot_list_append
abbrev BP:=@PySem.W.kia_one
abbrev BQ:=@Nat.ne_of_gt
abbrev BR:=@List.nodup_cons
abbrev BS:=@List.find?_cons
abbrev BU:=@PySem.wpAny_field
abbrev BV:=@PySem.F.slot_dict_keyiterator_next
abbrev BW:=@List.mem_iff_getElem
abbrev BX:=@Array.getElem?_eq_none
abbrev BY:=@List.take_succ_cons
abbrev BZ:=@List.map_congr_left
abbrev Ba:=@List.length_set
abbrev Bb:=@List.drop_eq_getElem_cons
abbrev Bc:=@PySem.wpAny_truthy_bool
abbrev Bd:=@PySem.wpAny_seqItems
abbrev Be:=@congrArg
abbrev Bf:=@Int.mul_nonneg
abbrev Bg:=@PySem.Obj.data_mapFields
abbrev Bh:=@List.length_eq_zero_iff
abbrev Bi:=@List.sum_append
abbrev Bj:=@or_false
abbrev Bk:=@PySem.Around.under_plainId
abbrev Bl:=@Nat.lt_or_ge
abbrev Bm:=@List.map_map
abbrev Bn:=@PyProof.Rows.size_push'
abbrev Bo:=@Nat.lt_irrefl
abbrev Bp:=@PySem.codeAny_builtin
abbrev Bq:=@PySem.Value.ref.injEq
abbrev Br:=@Array.getElem?_eq_some_iff
abbrev Bs:=@PySem.Paired.length
abbrev Bt:=@PySem.wpAny_isInstance
abbrev Bu:=@PySem.wpAny_forIn_list
abbrev Bv:=@List.getElem?_append_left
abbrev Bw:=@PyProof.Rows.boot_isinstance
abbrev Bx:=@List.mem_append
abbrev By:=@PySem.wpAny_setField
abbrev Bz:=@if_true
abbrev C0:=@decide_eq_true_eq
abbrev C1:=@Nat.pow_le_pow_right
abbrev C2:=@List.getElem?_set_ne
abbrev C3:=@PySem.Heap.get?_update_self
abbrev C4:=@PySem.F.type_list_extend
abbrev C5:=@PySem.F.slot_list_extend
abbrev C6:=@PySem.mem_of_lookup
abbrev C7:=@List.lookup_cons
abbrev C8:=@Int.mul_le_mul
abbrev C9:=@PySem.wpAny_attempt
abbrev CA:=@Nat.succ_mul
abbrev CB:=@List.pairwise_cons
abbrev CC:=@List.map_replicate
abbrev CD:=@Array.getElem?_toList
abbrev CF:=@PySem.wpAny_typeNameOfWhole_valiter
abbrev CG:=@PySem.wpAny_typeNameOfWhole_keyiter
abbrev CH:=@List.foldl_append
abbrev CI:=@PySem.wpAny_specialOf
abbrev CJ:=@PySem.wpAny_passesOwn
abbrev CK:=@PySem.wpAny_loadPart'
abbrev CL:=@Int.le_refl
abbrev CM:=@Array.perm_iff_toList_perm
abbrev CN:=@PySem.wpAny_dictEntries
abbrev CO:=@List.pairwise_iff_getElem
abbrev CP:=@beq_eq_false_iff_ne
abbrev CQ:=@PySem.F.slot_tuple_iterator_next
abbrev CS:=@PyProof.Rows.get?_update_seq
abbrev CT:=@Nat.not_lt_zero
abbrev CU:=@PyProof.Rows.listUpdate_at
abbrev CV:=@PySem.codeAny_mono
abbrev CW:=@List.filter_append
abbrev CY:=@PySem.F.called_set
abbrev CZ:=@Array.forIn_toList
abbrev Ca:=@List.getElem?_replicate
abbrev Cb:=@PySem.wpAny_typeNameOf_valiter
abbrev Cc:=@PySem.wpAny_typeNameOf_keyiter
abbrev Cd:=@bne_self_eq_false
abbrev Ce:=@Nat.sub_self
abbrev Cf:=@List.flatten_cons
abbrev Cg:=@Bool.not_false
abbrev Ch:=@PySem.wpAny_execs_nil
abbrev Ci:=@PySem.wpAny_dictEpoch
abbrev Cj:=@PySem.wpAny_setField_rec
abbrev Ck:=@PySem.wpAny_pyIter_tuple
abbrev Cm:=@PySem.Calls.spliced_cons
abbrev Cn:=@beq_iff_eq
abbrev Co:=@PyProof.Rows.callWith_builtin1
abbrev Cp:=@List.length_drop
abbrev Cq:=@Nat.add_assoc
abbrev Cr:=@PySem.wpAny_fieldsOf
abbrev Cs:=@Nat.le_succ
abbrev Ct:=@List.mem_of_mem_drop
abbrev Cu:=@Int.mul_le_mul_of_nonneg_left
abbrev Cv:=@PySem.F.slot_tuple_hash
abbrev Cw:=@PySem.Calls.callWith_builtin
abbrev Cy:=@List.foldl_cons
abbrev Cz:=@Bool.or_eq_true
abbrev D0:=@PySem.Obj.isFreed_of_fields
abbrev D1:=@PySem.wpAny_rule
abbrev D2:=@PySem.wpAny_askSetting
abbrev D3:=@Ne.symm
abbrev D4:=@Nat.pow_succ
abbrev D5:=@List.map_nil
abbrev D6:=@Int.pow_succ
abbrev D7:=@PySem.wpAny_newList
abbrev D8:=@PySem.plainId_quiet
abbrev D9:=@PySem.wpAny_of_eq
abbrev D':=@PySem.W.callWith_K
abbrev DA:=@Nat.mod_lt
abbrev DB:=@List.mem_filterMap
abbrev DC:=@Int.pow_nonneg
abbrev DD:=@Bool.and_false
abbrev DE:=@PySem.Heap.get?_update_ne
abbrev DF:=@PySem.wpAny_typeOf
abbrev DG:=@PySem.call_meets
set_option pp.maxSteps 400
set_option Elab.async false
set_option linter.all false
set_option maxRecDepth 100000
set_option maxHeartbeats 4000000
set_option Elab.async false
set_option linter.all false
set_option maxRecDepth 100000
namespace L2
open PySem PySem.Spec PyProof.Rows
abbrev Key:=Sum Int Str
def jQ_:Key->Value->Bool
 | .inl k,v=>Value.isInt k v
 | .inr x,v=>Value.isStrOf x v
def s3_ (w:World):Key->Int
 | .inl k=>hashInt k
 | .inr x=>hashStr w x
theorem aU_:∀{k:Key}{v:Value},jQ_ k v=true->(∃i t,k=Sum.inl i/\v=Value.int i t)\/(∃x t,k=Sum.inr x/\v=Value.str x t)
 | .inl i,v,h=>by
  obtain⟨t,e⟩:=Value.isInt_shape (k:=i) (v:=v) h;exact .inl ⟨i,t,rfl,e⟩
 | .inr x,v,h=>by
  obtain⟨t,e⟩:=Value.isStrOf_shape (x:=x) (v:=v) h;exact .inr ⟨x,t,rfl,e⟩
theorem lm_ (i:Int) (t:Tok):jQ_ (.inl i) (.int i t)=true:=by simp [jQ_,Value.isInt]
theorem ll_ (x:Str) (t:Tok):jQ_ (.inr x) (.str x t)=true:=by simp [jQ_,Value.isStrOf]
theorem qw_ (a b:Int):decide ((Sum.inl a:Key)=Sum.inl b)=(a==b):=by
 by_cases e:a=b
 .subst e;simp
 .have h:¬(Sum.inl a:Key)=Sum.inl b:=fun q=>e (Sum.inl.inj q);rw [Ak h];exact(CP.mpr e).symm
theorem qt_ (a b:Str):decide ((Sum.inr a:Key)=Sum.inr b)=decide (a=b):=by
 by_cases e:a=b
 .subst e;simp
 .have h:¬(Sum.inr a:Key)=Sum.inr b:=fun q=>e (Sum.inr.inj q);rw [Ak h,Ak e]
theorem qv_ (a:Int) (b:Str):decide ((Sum.inl a:Key)=Sum.inr b)=false:=Ak (fun q=>nomatch q)
theorem qu_ (a:Str) (b:Int):decide ((Sum.inr a:Key)=Sum.inl b)=false:=Ak (fun q=>nomatch q)
def a3_ (prog:Program) (w:World):PySem.KeyKind prog w Key where
 is:=jQ_
 hash:=s3_ w
 inj:=fun v a b ha hb=>by
  rcases aU_ ha with⟨i,t,rfl,rfl⟩|⟨x,t,rfl,rfl⟩
  .rcases aU_ hb with⟨j,u,rfl,e⟩|⟨y,u,rfl,e⟩
   .injection e with e1 _;rw [e1]
   .exact nomatch e
  .rcases aU_ hb with⟨j,u,rfl,e⟩|⟨y,u,rfl,e⟩
   .exact nomatch e
   .injection e with e1 _;rw [e1]
 byValue:=fun k v h=>by
  rcases aU_ h with⟨i,t,rfl,rfl⟩|⟨x,t,rfl,rfl⟩<;>rfl
 pyHash:=fun hv h=>by
  rcases aU_ hv with⟨i,t,rfl,rfl⟩|⟨x,t,rfl,rfl⟩
  .exact wpAny_pyHash_int h
  .exact wpAny_pyHash_str h
 eqBool:=fun hu hv h=>by
  rcases aU_ hu with⟨i,t,rfl,rfl⟩|⟨x,t,rfl,rfl⟩
  .rcases aU_ hv with⟨j,u,rfl,rfl⟩|⟨y,u,rfl,rfl⟩
   .rw [qw_] at h;exact wpAny_eqBool_int h
   .rw [qv_] at h;exact SeqAt.EqAt.int_str i t y u _ _ _ _ h
  .rcases aU_ hv with⟨j,u,rfl,rfl⟩|⟨y,u,rfl,rfl⟩
   .rw [qu_] at h;exact SeqAt.EqAt.str_int x t j u _ _ _ _ h
   .rw [qt_] at h;exact wpAny_eqBool_str h
 «strs»:=fun k x t v h=>by
  rcases aU_ h with⟨i,u,rfl,e⟩|⟨y,u,rfl,e⟩
  .exact nomatch e
  .injection e with e1 _;subst e1;cases v<;>rfl
theorem h4_ (prog:Program) (w:World) (i:Int) (t:Tok):(a3_ prog w).is (.inl i) (.int i t)=true:=lm_ i t
theorem h3_ (prog:Program) (w:World) (x:Str) (t:Tok):(a3_ prog w).is (.inr x) (.str x t)=true:=ll_ x t
end L2
namespace L2
open PySem PySem.Spec PyProof.Rows
inductive V where
 |non|bl (b:Bool)|int (i:Int)|str (x:Str)|byt (b:Array UInt8)|flt (b:UInt64)|ref (a:Addr)|ty (n:String)
 deriving DecidableEq
def aV_:V->Value->Prop
 | .non,u=>u=Value.none
 | .bl b,u=>u=Value.bool b
 | .int i,u=>∃t,u=Value.int i t
 | .str x,u=>∃t,u=Value.str x t
 | .byt b,u=>∃t,u=Value.bytes b t
 | .flt b,u=>∃t,u=Value.float b t
 | .ref a,u=>u=Value.ref a
 | .ty n,u=>u=Value.type n
abbrev aP_:List V->List Value->Prop:=Paired aV_
theorem aP_.length {xs:List V}{us:List Value} (r:aP_ xs us):xs.length=us.length:=Bs r
theorem aP_.get:∀{xs:List V}{us:List Value}{i:Nat}{x:V},aP_ xs us->xs[i]? =some x->∃u,us[i]? =some u/\aV_ x u
 |_,_,_,_, .nil,e=>by simp at e
 |_,_,0,_, .cons r _,e=>by simp at e;subst e;exact⟨_,rfl,r⟩
 |_,_,i+1,x, .cons _ t,e=>by
  obtain⟨u,h1,h2⟩:=aP_.get (i:=i) (x:=x) t (by simpa using e);exact⟨u,by simpa using h1,h2⟩
theorem aP_.set {x:V}{u:Value} (r:aV_ x u):∀{xs:List V}{us:List Value} (i:Nat),aP_ xs us->aP_ (xs.set i x) (us.set i u)
 |_,_,_, .nil=> .nil
 |_,_,0, .cons _ t=> .cons r t
 |_,_,i+1, .cons q t=> .cons q (aP_.set r i t)
theorem aP_.append:∀{xs ys:List V}{us ws:List Value},aP_ xs us->aP_ ys ws->aP_ (xs++ys) (us++ws)
 |_,_,_,_, .nil,s=>s
 |_,_,_,_, .cons r t,s=> .cons r (aP_.append t s)
theorem aP_.take:∀{xs:List V}{us:List Value} (n:Nat),aP_ xs us->aP_ (xs.take n) (us.take n)
 |_,_,0,_=> .nil
 |_,_,_+1, .nil=> .nil
 |_,_,n+1, .cons r t=> .cons r (aP_.take n t)
theorem aP_.drop:∀{xs:List V}{us:List Value} (n:Nat),aP_ xs us->aP_ (xs.drop n) (us.drop n)
 |_,_,0,r=>r
 |_,_,_+1, .nil=> .nil
 |_,_,n+1, .cons _ t=>aP_.drop n t
def in_:Option V->Option Value->Prop
 |some v,some u=>aV_ v u
 |none,none=>True
 |_,_=>False
def KV {κ:Type}:List (κ×V)->List (κ×Value)->Prop:=Paired fun(p:κ×V) (q:κ×Value)=>p.1=q.1/\aV_ p.2 q.2
def kV:Key->V
 | .inl i=> .int i
 | .inr x=> .str x
inductive HO where
  |lst (xs:List V)
  |tup (xs:List V)
  |dK (kvs:List (Key×V))|dT (kvs:List (List Key×V))
  |set (S:Int->Bool) (n:Nat)
  |ins (C dx:Addr) (fs:List (Str×V))
  |own (x:Addr)
  |xd (fs:List (Str×V))
  |met (f x:Addr)
  |rng (lo hi:Int)
  |frz (o:Obj) (u:HO)
  |tbl (ps:Array Value)
  |ext (φ:Heap->Prop)
abbrev Hp:=Addr->Option HO
def upd (H:Hp) (a:Addr) (o:HO):Hp:=fun b=>if b=a then some o else H b
theorem ae_ {H:Hp}{a:Addr}{o:HO}:upd H a o a=some o:=by unfold upd;rw [AA rfl]
theorem ak_ {H:Hp}{a b:Addr}{o:HO} (h:b≠a):upd H a o b=H b:=by unfold upd;rw [A9 h]
theorem n5_ {H:Hp}{a:Addr}{o u:HO}:upd (upd H a o) a u=upd H a u:=by
 funext b;unfold upd;split<;>rfl
theorem oQ_ {H:Hp}{a b:Addr}{o u:HO} (h:H a=some o) (h':H b=some u) (d:o≠u):a≠b:=by
 intro e;subst e;rw [h] at h';exact d (Ac h')
theorem aC_ {H:Hp}{a b:Addr}{o:HO} (h:H a=some o) (h':H b=none):a≠b:=by
 intro e;subst e;rw [h] at h';cases h'
section
variable (P:Program) (w:World)
def aH_ (H:Hp) (h:Heap) (a:Addr):HO->Prop
 | .lst xs=>xs.length<=sizeLine/\∃(its:List Value) (n:Nat),aP_ xs its/\h.get? a=some {cls:= .type "list",data:= .seq its.toArray n}
 | .tup xs=>xs.length<=sizeLine/\∃its:List Value,aP_ xs its/\IsTup h a its.toArray
 | .dK kvs=>kvs.length<=sizeLine/\(a==sysModules)=false/\∃vs,KV kvs vs/\h.DictOf (a3_ P w) a vs
 | .dT kvs=>kvs.length<=sizeLine/\(a==sysModules)=false/\∃xs:List (List Key×Addr×Value),
   Paired (fun(p:List Key×V) (q:List Key×Addr×Value)=>p.1=q.1/\H q.2.1=some (.tup (p.1.map kV))/\aV_ p.2 q.2.2) kvs xs/\
   ∃o es ep,h.get? a=some o/\o.ExactDict/\o.data= .dict es ep/\es.toList=xs.map (entryOfKey (tupleKind (a3_ P w)))/\(xs.map (·.1)).Nodup
 | .set S n=>h.SetOf (intKind P w) a S n
 | .ins C dx fs=>H dx=some (.own a)/\fs.length<=1000/\dx≠a/\h.get? a=some (W.instObj C dx)/\
   ∃mA,h.Ns1 dx mA/\(∀f,in_ (fs.lookup f) (mA f))/\PySem.Within mA (fs.map (·.1))
 | .own _=>∃o,h.get? a=some o
 | .xd fs=>∃mA,h.Ns1 a mA/\∀f,in_ (fs.lookup f) (mA f)
 | .rng lo hi=>∃t u v,h.get? a=some {cls:= .type "range",data:= .fields #[.int lo t, .int hi u, .int 1 v]}
 | .frz o u=>h.get? a=some o/\aH_ H h a u
 | .tbl ps=>h.get? a=some {cls:= .none,data:= .fields ps}
 | .met f x=>h.get? a=some (W.methodObj (.ref f) (.ref x))
 | .ext φ=>φ h/\(∃o,h.get? a=some o)/\∀h1 h2:Heap,φ h1->(∀o,h1.get? a=some o->h2.get? a=some o)->φ h2
def HOk (H:Hp) (h:Heap):Prop:=∀a o,H a=some o->aH_ P w H h a o
end
section
variable {P:Program}{w:World}{H H':Hp}{h h':Heap}{a:Addr}{o:HO}
theorem aH_.lt (x:aH_ P w H h a o):a<h.objs.size:=by
 cases o with
 |lst xs=>obtain⟨_,_,_,_,e⟩:=x;exact AG e
 |tup xs=>obtain⟨_,_,_,p⟩:=x;exact p.lt
 |dK kvs=>obtain⟨_,_,_,_,o,_,_,e,_⟩:=x;exact AG e
 |dT kvs=>obtain⟨_,_,_,_,o,_,_,e,_⟩:=x;exact AG e
 |set S n=>obtain⟨o,_,_,_,e,_⟩:=x;exact AG e
 |ins C dx fs=>obtain⟨_,_,_,e,_⟩:=x;exact AG e
 |own y=>obtain⟨_,e⟩:=x;exact AG e
 |xd fs=>obtain⟨_,⟨_,_,_,e,_⟩,_⟩:=x;exact AG e
 |rng lo hi=>obtain⟨_,_,_,e⟩:=x;exact AG e
 |frz ob u=>obtain⟨e,_⟩:=x;exact AG e
 |tbl ps=>exact AG (show h.get? a=some _ from x)
 |met f y=>exact AG (show h.get? a=some _ from x)
 |ext φ=>obtain⟨_,⟨_,e⟩,_⟩:=x;exact AG e
theorem Paired.mapP {α β:Type}{F G:α->β->Prop}:∀{l₁:List α}{l₂:List β},Paired F l₁ l₂->(∀a b,F a b->G a b)->Paired G l₁ l₂
 |_,_, .nil,_=> .nil
 |_,_, .cons r t,f=> .cons (f _ _ r) (Paired.mapP t f)
theorem aH_.stay (x:aH_ P w H h a o) (k:∀b u,(b=a\/H b=some (.own a))->h.get? b=some u->h'.get? b=some u)
  (ho:∀b,H b=some (.own a)->H' b=some (.own a)) (ht:∀b xs,H b=some (.tup xs)->H' b=some (.tup xs)):aH_ P w H' h' a o:=by
 induction o with
 |lst xs=>obtain⟨z,its,n,r,e⟩:=x;exact⟨z,its,n,r,k _ _ (.inl rfl) e⟩
 |tup xs=>obtain⟨z,its,r,ob,e,c⟩:=x;exact⟨z,its,r,ob,k _ _ (.inl rfl) e,c⟩
 |dK kvs=>obtain⟨z,y,vs,r,ob,es,ep,e,c⟩:=x;exact⟨z,y,vs,r,ob,es,ep,k _ _ (.inl rfl) e,c⟩
 |dT kvs=>
  obtain⟨z,y,xs,r,ob,es,ep,e,c⟩:=x;exact⟨z,y,xs,Paired.mapP r fun p q z=>⟨z.1,ht _ _ z.2.1,z.2.2⟩,ob,es,ep,k _ _ (.inl rfl) e,c⟩
 |set S n=>obtain⟨ob,es,ep,t,e,c⟩:=x;exact⟨ob,es,ep,t,k _ _ (.inl rfl) e,c⟩
 |ins C dx fs=>
  obtain⟨d,z,ne,e,mA,⟨od,es,ep,e2,c⟩,r⟩:=x;exact⟨ho _ d,z,ne,k _ _ (.inl rfl) e,mA,⟨od,es,ep,k _ _ (.inr d) e2,c⟩,r⟩
 |own y=>obtain⟨ob,e⟩:=x;exact⟨ob,k _ _ (.inl rfl) e⟩
 |xd fs=>obtain⟨mA,⟨od,es,ep,e,c⟩,r⟩:=x;exact⟨mA,⟨od,es,ep,k _ _ (.inl rfl) e,c⟩,r⟩
 |rng lo hi=>obtain⟨t,u,v,e⟩:=x;exact⟨t,u,v,k _ _ (.inl rfl) e⟩
 |frz ob u ih=>obtain⟨e,q⟩:=x;exact⟨k _ _ (.inl rfl) e,ih q⟩
 |tbl ps=>
  have e:h.get? a=some {cls:= .none,data:= .fields ps}:=x;show h'.get? a=some {cls:= .none,data:= .fields ps};exact k a _ (.inl rfl) e
 |met f y=>
  have e:h.get? a=some (W.methodObj (.ref f) (.ref y)):=x;show h'.get? a=some (W.methodObj (.ref f) (.ref y));exact k a _ (.inl rfl) e
 |ext φ=>obtain⟨p,⟨o,e⟩,st⟩:=x;exact⟨st _ _ p fun o q=>k _ _ (.inl rfl) q,⟨o,k _ _ (.inl rfl) e⟩,st⟩
theorem HOk.lt (x:HOk P w H h) (e:H a=some o):a<h.objs.size:=(x a o e).lt
theorem HOk.fresh (x:HOk P w H h) (e:h.objs.size<=a):H a=none:=by
 cases q:H a with
 |none=>rfl
 |some u=>exact absurd (AX (x.lt q) e) (Bo _)
theorem HOk.kept (x:HOk P w H h) (k:∀b u,h.get? b=some u->h'.get? b=some u):HOk P w H h':=fun a o e=>
 (x a o e).stay (fun b u _ q=>k b u q) (fun _ q=>q) fun _ _ q=>q
theorem HOk.laid (x:HOk P w H h) (k:∀b u,h.get? b=some u->h'.get? b=some u) (hp:h.objs.size<=a) (new:aH_ P w (upd H a o) h' a o):HOk P w (upd H a o) h':=fun b u e=>by
 have hn:=x.fresh hp;by_cases hb:b=a
 .subst hb;rw [ae_] at e;cases e;exact new
 .rw [ak_ hb] at e;exact(x b u e).stay (fun c v _ q=>k c v q) (fun c q=>by rw [ak_ (aC_ q hn)];exact q) fun c xs q=>by rw [ak_ (aC_ q hn)];exact q
end
def Rd (H:Hp) (a:Addr) (u:HO):Prop:=H a=some u\/∃o,H a=some (.frz o u)
theorem Rd.ok {P:Program}{w:World}{H:Hp}{h:Heap}{a:Addr}{u:HO} (r:Rd H a u) (x:HOk P w H h):aH_ P w H h a u:=by
 rcases r with r|⟨o,r⟩
 .exact x a u r
 .obtain⟨_,q⟩:=x a _ r;exact q
def Mut:Option HO->Prop
 |some (.lst _)=>True
 |some (.dK _)=>True
 |some (.dT _)=>True
 |some (.set _ _)=>True
 |some (.ins _ _ _)=>True
 |some (.ext _)=>True
 |_=>False
section
variable {P:Program}{w:World}{H:Hp}{h h':Heap}{x e:Addr}{o':HO}
theorem HOk.write (ok:HOk P w H h) (mu:Mut (H x)) (he:e=x\/H e=some (.own x)) (k:∀b u,b≠e->h.get? b=some u->h'.get? b=some u) (heo:∃u,h'.get? e=some u)
  (new:aH_ P w (upd H x o') h' x o'):HOk P w (upd H x o') h':=fun b u q=>by
 have nown:∀c y,H c=some (.own y)->c≠x:=fun c y r z=>by subst z;rw [r] at mu;exact mu
 have ntup:∀c xs,H c=some (.tup xs)->c≠x:=fun c xs r z=>by subst z;rw [r] at mu;exact mu
 by_cases hb:b=x
 .subst hb;rw [ae_] at q;cases q;exact new
 .rw [ak_ hb] at q;by_cases hbe:b=e
  .have q':H b=some (.own x):=by
    rcases he with z|z
    .exact absurd (hbe.trans z) hb
    .rw [hbe];exact z
   rw [q] at q';cases q';obtain⟨v,hv⟩:=heo;exact⟨v,by rw [hbe];exact hv⟩
  .refine(ok b u q).stay (fun c v hc r=>k c v ?_ r) (fun c r=>by rw [ak_ (nown c b r)];exact r) fun c xs r=>by rw [ak_ (ntup c xs r)];exact r
   rcases hc with rfl|hc
   .exact hbe
   .rintro rfl;rcases he with z|z
    .exact nown c b hc z
    .rw [hc] at z;cases z;exact hb rfl
end
structure Un (fs ex:List Addr) (H H':Hp) (h h':Heap):Prop where
 keep:∀b o,h.get? b=some o->H b=none->b∉fs->b∉ex->h'.get? b=some o
 slot:∀b o,h.get? b=some o->H b=none->b∈fs->b∉ex->∃sl,h'.get? b=some {o with slots:=sl}
 free:∀b o,h.get? b=some o->H b=none->b∉ex->H' b=none
 there:∀b o,h.get? b=some o->b∉ex->∃o',h'.get? b=some o'
 tups:∀b xs,H b=some (.tup xs)->H' b=some (.tup xs)
 frzs:∀b o u,H b=some (.frz o u)->H' b=some (.frz o u)
 tbls:∀b ps,H b=some (.tbl ps)->∃more,H' b=some (.tbl (ps++more))
section
variable {fs fs' ex ex':List Addr}{H H1 H2:Hp}{h h1 h2 h':Heap}{a x e:Addr}{o:HO}
theorem Un.any (u:Un fs ex H H1 h h1) {b:Addr}{ob:Obj} (q:h.get? b=some ob) (n:H b=none) (hx:b∉ex):∃sl,h1.get? b=some {ob with slots:=sl}:=by
 by_cases hb:b∈fs
 .exact u.slot b ob q n hb hx
 .exact⟨ob.slots,u.keep b ob q n hb hx⟩
theorem Un.kept (k:∀b u,h.get? b=some u->h'.get? b=some u):Un fs ex H H h h':=
 ⟨fun b ob q _ _ _=>k b ob q,fun b ob q _ _ _=>⟨ob.slots,k b ob q⟩,fun _ _ _ n _=>n,fun b ob q _=>⟨ob,k b ob q⟩,fun _ _ q=>q,fun _ _ _ q=>q,fun _ ps q=>⟨#[],by rw [q];simp⟩⟩
theorem Un.refl:Un fs ex H H h h:=Un.kept fun _ _ q=>q
theorem Un.laid (k:∀b u,h.get? b=some u->h'.get? b=some u) (hp:h.objs.size<=a) (hn:H a=none):Un fs ex H (upd H a o) h h' where
 keep:=fun b u q _ _ _=>k b u q
 slot:=fun b u q _ _ _=>⟨u.slots,k b u q⟩
 free:=fun b u q n _=>by rw [ak_ (AJ (AX (AG q) hp))];exact n
 there:=fun b u q _=>⟨u,k b u q⟩
 tups:=fun b xs q=>by rw [ak_ (aC_ q hn)];exact q
 frzs:=fun b u xs q=>by rw [ak_ (aC_ q hn)];exact q
 tbls:=fun b ps q=>⟨#[],by rw [ak_ (aC_ q hn),q];simp⟩
theorem Un.write (mu:Mut (H x)) (he:e=x\/H e=some (.own x)) (k:∀b u,b≠e->h.get? b=some u->h'.get? b=some u) (heo:∃u,h'.get? e=some u):Un fs ex H (upd H x o) h h':=by
 have hx:∀b,H b=none->b≠x:=fun b n z=>by subst z;rw [n] at mu;exact mu
 have hb:∀b,H b=none->b≠e:=fun b n z=>by
  subst z;rcases he with r|r
  .exact hx b n r
  .rw [n] at r;cases r
 have hm:∀b u,H b=some u->¬Mut (some u)->b≠x:=fun b u q nm z=>by subst z;rw [q] at mu;exact nm mu
 refine⟨fun b u q n _ _=>k b u (hb b n) q,fun b u q n _ _=>⟨u.slots,k b u (hb b n) q⟩,fun b u q n _=>by rw [ak_ (hx b n)];exact n,fun b u q _=> ?_,
  fun b xs q=>by rw [ak_ (hm b _ q fun z=>z)];exact q,fun b u xs q=>by rw [ak_ (hm b _ q fun z=>z)];exact q,fun b ps q=>⟨#[],by rw [ak_ (hm b _ q fun z=>z),q];simp⟩⟩
 by_cases hbe:b=e
 .subst hbe;exact heo
 .exact⟨u,k b u hbe q⟩
end
def trk (h:Heap) (H:Hp):List Addr:=(List.range h.objs.size).filter fun a=>(H a).isSome
def m1_ (h:Heap) (H:Hp):Heap:=W.hideAll h (trk h H)
theorem lx_ (h:Heap) (H:Hp):(m1_ h H).objs.size=h.objs.size:=W.hideAll_size _ _
theorem m0_ {h:Heap}{H:Hp}{b:Addr}{o:Obj} (e:h.get? b=some o) (n:H b=none):(m1_ h H).get? b=some o:=
 W.hideAll_get _ e fun hm=>by
  have q:(H b).isSome=true:=(List.mem_filter.mp hm).2;rw [n] at q;simp at q
theorem oM_ {h:Heap}{H:Hp}{b:Addr}{o:Obj} (e:(m1_ h H).get? b=some o):h.get? b=some o/\H b=none:=by
 have e':h.get? b=some o:=W.of_hideAll (trk h H) e;refine⟨e', ?_⟩;cases q:H b with
 |none=>rfl
 |some x=>
  have hm:b∈trk h H:=List.mem_filter.mpr ⟨Af.mpr (AG e'),by simp [q]⟩;have z:(m1_ h H).get? b=none:=W.hideAll_none (trk h H) hm;rw [z] at e;cases e
def pf_ (g h:Heap) (L:Addr):List (Addr×Obj):=(List.range h.objs.size).filterMap fun a=>if a=L\/(g.get? a).isSome=true then none else(h.get? a).map fun o=>(a,o)
def ci_ (g h:Heap) (L d:Addr):List (Addr×Obj):=(pf_ g h L).filter fun p=>decide (p.1≠d)
end L2
namespace L2
open PySem PySem.Spec PyProof.Rows
structure Mod (K:W.Frag) (mg:Str->Option Value) (base:Heap):Prop where
 kin:K.In base
 glob:base.Ns mainGlobals mg
 blt:∃mb,base.Ns builtinsNs mb/\∀x:Str,x≠"__name__"->mb x=bootBuiltins x
 nolimit:base.NoLimit
structure Cx where
 prog:Program
 w:World
 K:W.Frag
 mg:Str->Option Value
 base:Heap
 A:Around
 N:List Str
 s₀:Shared
 H₀:Hp
 env:Env
 outer:List Env
 stack:List Env
 ex:List Addr
 fn:Str->Bool
 calm:Bool
 pn:List (Addr×Obj)
 xe:Value->Shared->Prop
def frs (l:List Env):List Addr:=l.filterMap (·.frame)
abbrev Cx.fs (X:Cx):List Addr:=frs X.outer
def Vis (sc:Scope) (x:Str):Prop:=sc.names.lookup x=some .local\/sc.names.lookup x=some .cell\/sc.names.lookup x=some .free
def Loc (sc:Scope) (x:Str):Prop:=sc.names.lookup x=some .local\/sc.names.lookup x=some .cell
def sz_ (env:Env) (h:Heap) (m:Str->Option Value) (x:Str) (u:Value):Prop:=
 (env.kindOf x=some .local/\m x=some u)\/((env.kindOf x=some .cell\/env.kindOf x=some .free)/\∃c,env.cells.lookup x=some c/\h.IsCell c (some u))
structure Cx.Ok (X:Cx):Prop where
 mod:Mod X.K X.mg X.base
 kind:X.env.scope.kind= .function
 glob:X.env.globals=mainGlobals
 blt:X.env.builtins=builtinsNs
 above:X.s₀.heap.objs.size<=X.env.locals
 inj:∀x y c,X.env.cells.lookup x=some c->X.env.cells.lookup y=some c->x=y
 has:∀x,(X.env.kindOf x=some .cell\/X.env.kindOf x=some .free)->∃c,X.env.cells.lookup x=some c
 cab:∀x c,X.fn x=true->X.env.cells.lookup x=some c->X.s₀.heap.objs.size<=c
 hd:X.calm=true->X.A.handled=none
 frames:X.A.frames=some X.stack
 stk:X.stack=X.outer\/(X.stack=X.env::X.outer/\X.env.frame=some X.env.locals)
 exf:∀b∈X.ex,b≠X.env.locals/\∀x c,X.env.cells.lookup x=some c->c≠b
 bs:∀b o,X.base.get? b=some o->X.s₀.heap.get? b=some o/\X.H₀ b=none
 bsz:X.base.objs.size<=X.s₀.heap.objs.size
 noex:∀b o,X.base.get? b=some o->b∉X.ex
 exfs:∀b∈X.ex,b∉X.fs
 funs:X.s₀.heap.FunFrames X.base X.outer
 frf:∀b∈X.fs,X.H₀ b=none
structure Inv (X:Cx) (pins:List (Addr×Obj)) (σ:List (Option V)) (H:Hp) (s:Shared):Prop where
 ok:X.Ok
 os:s.os=X.s₀.os
 bare:AllBare s.gens
 base:Un X.fs X.ex X.H₀ H X.s₀.heap s.heap
 loc:∃m,s.heap.Ns X.env.locals m/\∀(i:Nat) (x:Str) (v:V),X.N[i]? =some x->σ[i]? =some (some v)->Vis X.env.scope x->∃u,aV_ v u/\sz_ X.env s.heap m x u
 cell:∀x c,X.env.cells.lookup x=some c->∃v,s.heap.IsCell c v
 free:H X.env.locals=none
 freeC:∀x c,X.env.cells.lookup x=some c->H c=none
 pin:∀p∈X.pn++pins,s.heap.get? p.1=some p.2/\H p.1=none/\p.1≠X.env.locals/\p.1∉X.fs/\∀v,p.2.data≠ .cell v
 hok:HOk X.prog X.w H s.heap
 len:σ.length=X.N.length
section
variable {X:Cx}{pins:List (Addr×Obj)}{σ:List (Option V)}{H H':Hp}{s:Shared}{h':Heap}
theorem Cx.Ok.nofr (ok:X.Ok) {b:Addr}{o:Obj} (e:X.base.get? b=some o):b∉X.fs:=fun hb=>by
 have:=(ok.funs.mem hb).1;rw [e] at this;cases this
theorem Inv.bs (I:Inv X pins σ H s):∀b o,X.base.get? b=some o->s.heap.get? b=some o/\H b=none:=fun b o e=>
 ⟨I.base.keep b o (I.ok.bs b o e).1 (I.ok.bs b o e).2 (I.ok.nofr e) (I.ok.noex b o e),I.base.free b o (I.ok.bs b o e).1 (I.ok.bs b o e).2 (I.ok.noex b o e)⟩
theorem Inv.bk (I:Inv X pins σ H s):∀b o,X.base.get? b=some o->s.heap.get? b=some o:=fun b o e=>(I.bs b o e).1
theorem Inv.mod (I:Inv X pins σ H s):Mod X.K X.mg X.base:=I.ok.mod
theorem Inv.kIn (I:Inv X pins σ H s):X.K.In s.heap:=I.ok.mod.kin.keeps I.bk
theorem Inv.lt (I:Inv X pins σ H s):X.env.locals<s.heap.objs.size:=let ⟨_,hn,_⟩:=I.loc;hn.lt
theorem Inv.sz (I:Inv X pins σ H s):X.s₀.heap.objs.size<=s.heap.objs.size:=Az I.ok.above (AZ I.lt)
theorem Inv.nofs (I:Inv X pins σ H s) {a:Addr} (h:s.heap.objs.size<=a):a∉X.fs:=fun hb=>by
 obtain⟨_,o,ho,_⟩:=I.ok.funs.mem hb;exact absurd (AX (AG ho) (Az I.sz h)) (Bo _)
theorem Inv.cne (I:Inv X pins σ H s):∀x c,X.env.cells.lookup x=some c->c≠X.env.locals:=fun x c e z=>by
 obtain⟨v,o,ho,hd⟩:=I.cell x c e;obtain⟨m,⟨o',es,ep,ho',hd',_⟩,_⟩:=I.loc;rw [z,ho'] at ho;cases ho;rw [hd'] at hd;cases hd
theorem Inv.funs (I:Inv X pins σ H s):s.heap.FunFrames X.base X.outer:=by
 have all:∀(l:List Env),(∀b∈frs l,b∈X.fs)->X.s₀.heap.FunFrames X.base l->s.heap.FunFrames X.base l:=by
  intro l;induction l with
  |nil=>intro _ _;trivial
  |cons env r ih=>
   intro hs hl;obtain⟨hk,⟨L,o,hf,hn,ho,hd⟩,hr⟩:=hl;have hL:L∈X.fs:=hs L (by unfold frs;rw [List.filterMap_cons,hf];exact AU);obtain⟨sl,e⟩:=I.base.slot L o ho (I.ok.frf L hL) hL fun z=>I.ok.exfs L z hL;exact⟨hk,⟨L,_,hf,hn,e,hd⟩,ih (fun b hb=>hs b (by unfold frs;rw [List.filterMap_cons,hf];exact AR _ hb)) hr⟩
 exact all X.outer (fun _ hb=>hb) I.ok.funs
theorem Inv.stack (I:Inv X pins σ H s):s.heap.FunFrames X.base X.stack:=by
 rcases I.ok.stk with e|⟨e,hf⟩
 .rw [e];exact I.funs
 .rw [e];obtain⟨m,hn,_⟩:=I.loc;refine .cons (by rw [I.ok.kind];decide) hf hn ?_ I.funs;exact Heap.get?_none_of_le (Az I.ok.bsz I.ok.above)
theorem Inv.stkSub (I:Inv X pins σ H s):∀b∈frs X.stack,b∈X.env.locals::X.fs:=fun b hb=>by
 rcases I.ok.stk with e|⟨e,hf⟩
 .rw [e] at hb;exact AR _ hb
 .rw [e] at hb;unfold frs at hb;rw [List.filterMap_cons,hf] at hb;exact hb
theorem Inv.stkFree (I:Inv X pins σ H s):∀b∈frs X.stack,H b=none:=fun b hb=>by
 rcases AI.mp (I.stkSub b hb) with e|hb
 .rw [e];exact I.free
 .obtain⟨_,o,ho,_⟩:=I.ok.funs.mem hb;exact I.base.free b o ho (I.ok.frf b hb) fun z=>I.ok.exfs b z hb
theorem Inv.step {g':Array GenState}{t':Nat}{d':Drawn}{ch:List Addr} (I:Inv X pins σ H s)
  (hch:∀b∈ch,(b∈X.ex\/X.s₀.heap.objs.size<=b)/\b≠X.env.locals/\(∀x c,X.env.cells.lookup x=some c->c≠b)/\∀p∈X.pn++pins,p.1≠b)
  (keep:∀b o,b≠X.env.locals->b∉X.fs->b∉ch->s.heap.get? b=some o->H b=none->h'.get? b=some o)
  (slot:∀b o,b≠X.env.locals->b∈X.fs->b∉ch->s.heap.get? b=some o->H b=none->∃sl,h'.get? b=some {o with slots:=sl}) (free:∀b o,b∉ch->s.heap.get? b=some o->H b=none->H' b=none)
  (there:∀b o,b∉ch->s.heap.get? b=some o->∃o',h'.get? b=some o')
  (tups:∀b xs,H b=some (.tup xs)->H' b=some (.tup xs)) (frzs:∀b o u,H b=some (.frz o u)->H' b=some (.frz o u)) (tbls:∀b ps,H b=some (.tbl ps)->∃more,H' b=some (.tbl (ps++more)))
  (ns:∀m,s.heap.Ns X.env.locals m->h'.Ns X.env.locals m) (hok:HOk X.prog X.w H' h') (hg:AllBare g'):
  Inv X pins σ H' {s with heap:=h',gens:=g',drawn:=d',toks:=t'}:=by
 have neL:∀b o,X.s₀.heap.get? b=some o->b≠X.env.locals:=fun b o e=>AJ (AX (AG e) I.ok.above);have neC:∀b o,X.s₀.heap.get? b=some o->b∉X.ex->b∉ch:=fun b o e hx hb=>by
  rcases(hch b hb).1 with z|z
  .exact hx z
  .exact absurd (AX (AG e) z) (Bo _)
 have cellK:∀x c,X.env.cells.lookup x=some c->∀v,s.heap.IsCell c v->h'.IsCell c v:=fun x c e v ⟨o,ho,hd⟩=>by
  have nch:c∉ch:=fun z=>(hch c z).2.2.1 x c e rfl;by_cases hc:c∈X.fs
  .obtain⟨sl,q⟩:=slot c o (I.cne x c e) hc nch ho (I.freeC x c e);exact⟨_,q,hd⟩
  .exact⟨o,keep c o (I.cne x c e) hc nch ho (I.freeC x c e),hd⟩
 refine⟨I.ok,I.os,hg,⟨fun b o e n hb hx=> ?_,fun b o e n hb hx=> ?_,fun b o e n hx=> ?_,fun b o e hx=> ?_,fun b xs e=>tups b xs (I.base.tups b xs e),fun b o xs e=>frzs b o xs (I.base.frzs b o xs e),fun b ps e=> ?_⟩, ?_,fun x c e=> ?_, ?_,fun x c e=> ?_,fun p hp=> ?_,hok,I.len⟩
 .exact keep b o (neL b o e) hb (neC b o e hx) (I.base.keep b o e n hb hx) (I.base.free b o e n hx)
 .obtain⟨sl,e1⟩:=I.base.slot b o e n hb hx;obtain⟨sl',e2⟩:=slot b _ (neL b o e) hb (neC b o e hx) e1 (I.base.free b o e n hx);exact⟨sl',e2⟩
 .obtain⟨o',e1⟩:=I.base.there b o e hx;exact free b o' (neC b o e hx) e1 (I.base.free b o e n hx)
 .obtain⟨o',e1⟩:=I.base.there b o e hx;exact there b o' (neC b o e hx) e1
 .obtain⟨m1,e1⟩:=I.base.tbls b ps e;obtain⟨m2,e2⟩:=tbls b _ e1;exact⟨m1++m2,by rw [e2,Array.append_assoc]⟩
 .obtain⟨m,hn,hl⟩:=I.loc;refine⟨m,ns m hn,fun i x v e1 e2 e3=> ?_⟩;obtain⟨u,r,l⟩:=hl i x v e1 e2 e3;refine⟨u,r, ?_⟩;rcases l with l|⟨k,c,e,z⟩
  .exact .inl l
  .exact .inr ⟨k,c,e,cellK x c e _ z⟩
 .obtain⟨v,z⟩:=I.cell x c e;exact⟨v,cellK x c e v z⟩
 .obtain⟨m,⟨o,_,_,ho,_⟩,_⟩:=I.loc;exact free _ o (fun z=>(hch _ z).2.1 rfl) ho I.free
 .obtain⟨v,o,ho,hd⟩:=I.cell x c e;exact free c o (fun z=>(hch c z).2.2.1 x c e rfl) ho (I.freeC x c e)
 .obtain⟨e,n,ne,nf,d⟩:=I.pin p hp;have nch:p.1∉ch:=fun z=>(hch p.1 z).2.2.2 p hp rfl;exact⟨keep p.1 p.2 ne nf nch e n,free p.1 p.2 nch e n,ne,nf,d⟩
theorem Inv.un {t':Nat} (I:Inv X pins σ H s) (u:Un X.fs [] H H' s.heap h') (hok:HOk X.prog X.w H' h'):Inv X pins σ H' {s with heap:=h',toks:=t'}:=by
 obtain⟨m,⟨o,es,ep,ho,r⟩,_⟩:=id I.loc;obtain⟨sl,hL⟩:=u.any ho I.free (by simp);exact I.step (g':=s.gens) (d':=s.drawn) (ch:=[]) (fun _ z=>nomatch z) (fun b o _ hb _ e n=>u.keep b o e n hb (by simp)) (fun b o _ hb _ e n=>u.slot b o e n hb (by simp)) (fun b o _ e n=>u.free b o e n (by simp)) (fun b o _ e=>u.there b o e (by simp)) u.tups u.frzs u.tbls (fun m' hm=>by
  obtain⟨o',es',ep',ho',r'⟩:=hm;rw [ho] at ho';cases ho';exact⟨_,es',ep',hL,r'⟩) hok I.bare
theorem Inv.call {g':Array GenState}{t':Nat}{d':Drawn}{ch:List Addr} (I:Inv X pins σ H s) (u:Un (frs X.stack) ch H H' s.heap h') (hok:HOk X.prog X.w H' h') (hg:AllBare g')
  (hch:∀b∈ch,(b∈X.ex\/X.s₀.heap.objs.size<=b)/\b≠X.env.locals/\(∀x c,X.env.cells.lookup x=some c->c≠b)/\∀p∈X.pn++pins,p.1≠b):
  Inv X pins σ H' {s with heap:=h',gens:=g',drawn:=d',toks:=t'}:=by
 obtain⟨m,⟨o,es,ep,ho,r⟩,_⟩:=id I.loc;obtain⟨sl,hL⟩:=u.any ho I.free fun z=>(hch _ z).2.1 rfl;exact I.step (ch:=ch) hch (fun b o hL hb hc e n=>u.keep b o e n (fun z=>(AI.mp (I.stkSub b z)).elim hL hb) hc) (fun b o _ _ hc e n=>u.any e n hc) (fun b o hc e n=>u.free b o e n hc) (fun b o hc e=>u.there b o e hc) u.tups u.frzs u.tbls (fun m' hm=>by
  obtain⟨o',es',ep',ho',r'⟩:=hm;rw [ho] at ho';cases ho';exact⟨_,es',ep',hL,r'⟩) hok hg
theorem Inv.turned {t':Nat}{it:Addr} (I:Inv X pins σ H s) (k:∀b o,b≠it->s.heap.get? b=some o->h'.get? b=some o) (hn:H it=none) (hL:it≠X.env.locals)
  (h1:it∈X.ex\/X.s₀.heap.objs.size<=it) (h2:∀x c,X.env.cells.lookup x=some c->c≠it) (h3:∀p∈X.pn++pins,p.1≠it):Inv X pins σ H {s with heap:=h',toks:=t'}:=by
 have nit:∀b u,H b=some u->b≠it:=fun b u e z=>by rw [z,hn] at e;cases e
 refine I.step (g':=s.gens) (d':=s.drawn) (ch:=[it]) (fun b hb=> ?_) (fun b o _ _ hc e _=>k b o (fun z=>hc (by simp [z])) e) (fun b o _ _ hc e _=>⟨o.slots,k b o (fun z=>hc (by simp [z])) e⟩) (fun _ _ _ _ n=>n)
  (fun b o hc e=>⟨o,k b o (fun z=>hc (by simp [z])) e⟩) (fun _ _ e=>e) (fun _ _ _ e=>e) (fun b ps e=>⟨#[],by rw [e];simp⟩) (fun m hm=> ?_) (fun b u e=> ?_) I.bare
 .have e:b=it:=by simpa using hb
  subst e;exact⟨h1,hL,h2,h3⟩
 .obtain⟨o,es,ep,ho,r⟩:=hm;exact⟨o,es,ep,k _ o (D3 hL) ho,r⟩
 .refine(I.hok b u e).stay (fun c v hc q=>k c v ?_ q) (fun _ q=>q) fun _ _ q=>q;rcases hc with z|z
  .rw [z];exact nit b u e
  .exact nit c _ z
theorem Inv.tok (I:Inv X pins σ H s) (t:Nat):Inv X pins σ H {s with toks:=t}:=I.un (h':=s.heap) (t':=t) Un.refl I.hok
theorem Inv.kept {t':Nat} (I:Inv X pins σ H s) (k:∀b u,s.heap.get? b=some u->h'.get? b=some u):Inv X pins σ H {s with heap:=h',toks:=t'}:=I.un (Un.kept k) (I.hok.kept k)
theorem Inv.laid {a:Addr}{o:HO}{t':Nat} (I:Inv X pins σ H s) (k:∀b u,s.heap.get? b=some u->h'.get? b=some u) (hp:s.heap.objs.size<=a) (new:aH_ X.prog X.w (upd H a o) h' a o):
  Inv X pins σ (upd H a o) {s with heap:=h',toks:=t'}:=I.un (Un.laid k hp (I.hok.fresh hp)) (I.hok.laid k hp new)
theorem Inv.write {x e:Addr}{o:HO}{t':Nat} (I:Inv X pins σ H s) (mu:Mut (H x)) (he:e=x\/H e=some (.own x)) (k:∀b u,b≠e->s.heap.get? b=some u->h'.get? b=some u) (heo:∃u,h'.get? e=some u)
  (new:aH_ X.prog X.w (upd H x o) h' x o):Inv X pins σ (upd H x o) {s with heap:=h',toks:=t'}:=I.un (Un.write mu he k heo) (I.hok.write mu he k heo new)
theorem Inv.weak {σ':List (Option V)} (I:Inv X pins σ H s) (hl:σ'.length=σ.length) (w:∀(i:Nat) v,σ'[i]? =some (some v)->σ[i]? =some (some v)):Inv X pins σ' H s:=
 ⟨I.ok,I.os,I.bare,I.base,let ⟨m,hn,hl'⟩:=I.loc;⟨m,hn,fun i x v e1 e2 e3=>hl' i x v e1 (w i v e2) e3⟩,I.cell,I.free,I.freeC,I.pin,I.hok,hl.trans I.len⟩
theorem Inv.pins_of {pins':List (Addr×Obj)} (I:Inv X pins σ H s) (h:∀p∈pins',s.heap.get? p.1=some p.2/\H p.1=none/\p.1≠X.env.locals/\p.1∉X.fs/\∀v,p.2.data≠ .cell v):Inv X pins' σ H s:=
 ⟨I.ok,I.os,I.bare,I.base,I.loc,I.cell,I.free,I.freeC,fun p hp=>(Bx.mp hp).elim (fun z=>I.pin p (List.mem_append_left _ z)) (h p),I.hok,I.len⟩
theorem fX_ {N:List Str} (hN:N.Nodup) {i j:Nat}{x:Str} (a:N[i]? =some x) (b:N[j]? =some x):i=j:=by
 obtain⟨h1,e1⟩:=AD.mp a;obtain⟨h2,e2⟩:=AD.mp b;exact(List.getElem_inj hN).mp (e1.trans e2.symm)
theorem kn_ {M:Model}{A:Around}{E:Value->Shared->Prop}{i:Nat}{x:Str}{v:V}{u:Value}{Q:Unit->Shared->Prop} (I:Inv X pins σ H s) (hN:X.N.Nodup) (hi:X.N[i]? =some x) (hx:Loc X.env.scope x) (r:aV_ v u)
  (h:∀s',Inv X pins (σ.set i (some v)) H s'->(∃a,Heap.SameBut a s.heap s'.heap/\(a=X.env.locals\/X.env.cells.lookup x=some a))->Q () s') (hf:X.fn x=true\/X.env.scope.names.lookup x=some .local:=by first|exact .inl rfl|exact .inr rfl|assumption):wpAny M A (storeName X.env x u) Q E s:=by
 obtain⟨m,hn,hl⟩:=id I.loc;have hcls:(X.env.scope.kind== .class||(X.env.scope.kind== .module&&X.env.locals !=X.env.globals))=false:=by rw [I.ok.kind];rfl
 have hiσ:i<σ.length:=by rw [I.len];exact(AD.mp hi).1
 have cne:=I.cne;have tracked:∀{a:Addr}{h':Heap},(∃o,s.heap.get? a=some o/\H a=none)->Heap.SameBut a s.heap h'->HOk X.prog X.w H h':=fun{a h'} ha hs b ob e=>by
  obtain⟨_,_,hfree⟩:=ha;refine(I.hok b ob e).stay (fun c w' hc q=>(hs.2 c ?_).trans q) (fun _ q=>q) fun _ _ q=>q;rintro rfl;rcases hc with rfl|hc
  .rw [hfree] at e;cases e
  .rw [hfree] at hc;cases hc
 rcases hx with hk|hk
 .refine wpAny_storeName_local hk hn (fun h' hn' hs=> ?_) hcls;obtain⟨oL,_,_,hoL,_⟩:=id hn;refine h _ ⟨I.ok,I.os,I.bare,⟨fun b o e n hb hx=> ?_,fun b o e n hb hx=> ?_,I.base.free,fun b o e hx=> ?_,I.base.tups,I.base.frzs,I.base.tbls⟩,⟨_,hn',fun j y v' e1 e2 e3=> ?_⟩,fun y c e=> ?_,I.free,I.freeC,fun p hp=> ?_,tracked ⟨oL,hoL,I.free⟩ hs,by simpa using I.len⟩ ⟨_,hs, .inl rfl⟩
  .exact(hs.2 b (AJ (AX (AG e) I.ok.above))).trans (I.base.keep b o e n hb hx)
  .obtain⟨sl,e1⟩:=I.base.slot b o e n hb hx;exact⟨sl,(hs.2 b (AJ (AX (AG e) I.ok.above))).trans e1⟩
  .obtain⟨o',e1⟩:=I.base.there b o e hx;exact⟨o',(hs.2 b (AJ (AX (AG e) I.ok.above))).trans e1⟩
  .by_cases hj:j=i
   .subst hj;rw [hi] at e1;cases e1;rw [List.getElem?_set_self hiσ] at e2;cases e2;exact⟨u,r, .inl ⟨hk,by simp⟩⟩
   .rw [C2 (D3 hj)] at e2;obtain⟨u',r',q⟩:=hl j y v' e1 e2 e3;refine⟨u',r', ?_⟩;rcases q with⟨k,e⟩|⟨k,c,e,z⟩
    .refine .inl ⟨k, ?_⟩;have:y≠x:=fun e=>hj (fX_ hN e1 (e▸hi));simp [this,e]
    .exact .inr ⟨k,c,e,z.sameBut hs (cne y c e)⟩
  .obtain⟨w',z⟩:=I.cell y c e;exact⟨w',z.sameBut hs (cne y c e)⟩
  .obtain⟨e,n,ne,nf,d⟩:=I.pin p hp;exact⟨(hs.2 p.1 ne).trans e,n,ne,nf,d⟩
 .have hfn:X.fn x=true:=by
   rcases hf with z|z
   .exact z
   .rw [z] at hk;cases hk
  obtain⟨c,hc⟩:=I.ok.has x (.inl hk);obtain⟨w',z⟩:=I.cell x c hc;refine wpAny_storeName_cell I.ok.kind hk hc z (fun h' hc' hs=> ?_);obtain⟨oc,hoc,hocd⟩:=id z;refine h {s with heap:=h'} ⟨I.ok,I.os,I.bare,⟨fun b o e n hb hx=> ?_,fun b o e n hb hx=> ?_,I.base.free,fun b o e hx=> ?_,I.base.tups,I.base.frzs,I.base.tbls⟩,⟨m,hn.sameBut hs (D3 (cne x c hc)),fun j y v' e1 e2 e3=> ?_⟩,fun y c' e=> ?_,I.free,I.freeC,fun p hp=> ?_,tracked ⟨oc,hoc,I.freeC x c hc⟩ hs,by simpa using I.len⟩ ⟨c,hs, .inr hc⟩
  .exact(hs.2 b (AJ (AX (AG e) (I.ok.cab x c hfn hc)))).trans (I.base.keep b o e n hb hx)
  .obtain⟨sl,e1⟩:=I.base.slot b o e n hb hx;exact⟨sl,(hs.2 b (AJ (AX (AG e) (I.ok.cab x c hfn hc)))).trans e1⟩
  .obtain⟨o',e1⟩:=I.base.there b o e hx;exact⟨o',(hs.2 b (AJ (AX (AG e) (I.ok.cab x c hfn hc)))).trans e1⟩
  .by_cases hj:j=i
   .subst hj;rw [hi] at e1;cases e1;rw [List.getElem?_set_self hiσ] at e2;cases e2;exact⟨u,r, .inr ⟨.inl hk,c,hc,hc'⟩⟩
   .rw [C2 (D3 hj)] at e2;obtain⟨u',r',q⟩:=hl j y v' e1 e2 e3;refine⟨u',r', ?_⟩;rcases q with q|⟨k,c',e,z'⟩
    .exact .inl q
    .refine .inr ⟨k,c',e,z'.sameBut hs ?_⟩;rintro rfl;exact hj (fX_ hN e1 (I.ok.inj _ _ _ e hc▸hi))
  .by_cases hcc:c'=c
   .subst hcc;exact⟨_,hc'⟩
   .obtain⟨w2,z2⟩:=I.cell y c' e;exact⟨w2,z2.sameBut hs hcc⟩
  .obtain⟨e,n,ne,nf,d⟩:=I.pin p hp;refine⟨(hs.2 p.1 ?_).trans e,n,ne,nf,d⟩;intro q;rw [q,hoc] at e;have q':oc=p.2:=Ac e;exact d w' (by rw [<-q'];exact hocd)
theorem d9_ {M:Model}{A:Around}{E:Value->Shared->Prop}{i:Nat}{x:Str}{v:V}{u:Value}{Q:Unit->Shared->Prop} (I:Inv X pins σ H s) (hN:X.N.Nodup) (hi:X.N[i]? =some x) (hx:Loc X.env.scope x) (r:aV_ v u)
  (h:∀s',Inv X pins (σ.set i (some v)) H s'->Q () s') (hf:X.fn x=true\/X.env.scope.names.lookup x=some .local:=by first|exact .inl rfl|exact .inr rfl|assumption):wpAny M A (storeName X.env x u) Q E s:=
 kn_ I hN hi hx r (fun s' I' _=>h s' I') hf
theorem Inv.call' {s':Shared}{ch:List Addr} (I:Inv X pins σ H s) (ho:s'.os=s.os) (u:Un (frs X.stack) ch H H' s.heap s'.heap) (hok:HOk X.prog X.w H' s'.heap) (hg:AllBare s'.gens)
  (hch:∀b∈ch,(b∈X.ex\/X.s₀.heap.objs.size<=b)/\b≠X.env.locals/\(∀x c,X.env.cells.lookup x=some c->c≠b)/\∀p∈X.pn++pins,p.1≠b):Inv X pins σ H' s':=by
 obtain⟨h',g',d',t',o'⟩:=s';have e:o'=s.os:=ho;subst e;exact I.call (g':=g') (t':=t') (d':=d') u hok hg hch
end
abbrev XK:=Value->Option Addr->Hp->Prop
abbrev St:=List (Option V)
abbrev VK:=V->Hp->Prop
abbrev TE:=St->Hp->VK->Prop
abbrev TT:=St->Hp->(Bool->Hp->Prop)->Prop
abbrev TA:=St->Hp->(List V->Hp->Prop)->Prop
structure Ends where
 nx:St->Hp->Prop
 rt:VK
 bk:St->Hp->Prop:=fun _ _=>False
 ct:St->Hp->Prop:=fun _ _=>False
abbrev TS:=Ends->St->Hp->Prop
def EP (X:Cx) (pins:List (Addr×Obj)) (σ:St) (Q:VK) (u:Value) (s':Shared):Prop:=∃v H',Inv X pins σ H' s'/\aV_ v u/\Q v H'
def TP (X:Cx) (pins:List (Addr×Obj)) (σ:St) (Q:Bool->Hp->Prop) (b:Bool) (s':Shared):Prop:=∃H',Inv X pins σ H' s'/\Q b H'
def AP (X:Cx) (pins:List (Addr×Obj)) (σ:St) (Q:List V->Hp->Prop) (us:List Value) (s':Shared):Prop:=∃vs H',Inv X pins σ H' s'/\aP_ vs us/\Q vs H'
def SP (X:Cx) (pins:List (Addr×Obj)) (D:Ends) (f:Flow) (s':Shared):Prop:=
 match f with
 | .next=>∃σ' H',Inv X pins σ' H' s'/\D.nx σ' H'
 | .brk=>∃σ' H',Inv X pins σ' H' s'/\D.bk σ' H'
 | .cont=>∃σ' H',Inv X pins σ' H' s'/\D.ct σ' H'
 | .ret u=>∃v σ' H',Inv X pins σ' H' s'/\aV_ v u/\D.rt v H'
def PE (X:Cx) (e:Expr) (t:TE):Prop:=
 ∀(pins:List (Addr×Obj)) (s:Shared) (σ:St) (H:Hp) (Q:VK),Inv X pins σ H s->t σ H Q->wpAny (model X.prog X.w) X.A (eval e X.env) (EP X pins σ Q) X.xe s
def PT (X:Cx) (e:Expr) (t:TT):Prop:=
 ∀(pins:List (Addr×Obj)) (s:Shared) (σ:St) (H:Hp) (Q:Bool->Hp->Prop),Inv X pins σ H s->t σ H Q->wpAny (model X.prog X.w) X.A (isTrue e X.env (eval e X.env)) (TP X pins σ Q) X.xe s
def PW (X:Cx) (e:Expr) (t:TT):Prop:=
 ∀(whole:Sem Value) (pins:List (Addr×Obj)) (s:Shared) (σ:St) (H:Hp) (Q:Bool->Hp->Prop),Inv X pins σ H s->t σ H Q->wpAny (model X.prog X.w) X.A (isTrue e X.env whole) (TP X pins σ Q) X.xe s
theorem PW.pt {X:Cx}{e:Expr}{t:TT} (h:PW X e t):PT X e t:=h _
def PA (X:Cx) (es:List Expr) (t:TA):Prop:=
 ∀(pos:Pos) (pins:List (Addr×Obj)) (s:Shared) (σ:St) (H:Hp) (Q:List V->Hp->Prop),Inv X pins σ H s->t σ H Q->wpAny (model X.prog X.w) X.A (spliced (backTo pos (starEach es X.env))) (AP X pins σ Q) X.xe s
def PS (X:Cx) (st:Stmt) (t:TS):Prop:=
 ∀(pins:List (Addr×Obj)) (s:Shared) (σ:St) (H:Hp) (D:Ends),Inv X pins σ H s->t D σ H->wpAny (model X.prog X.w) X.A (exec st X.env) (SP X pins D) X.xe s
def PSs (X:Cx) (st:List Stmt) (t:TS):Prop:=
 ∀(pins:List (Addr×Obj)) (s:Shared) (σ:St) (H:Hp) (D:Ends),Inv X pins σ H s->t D σ H->wpAny (model X.prog X.w) X.A (execs st X.env) (SP X pins D) X.xe s
theorem thn {α:Type}{t:Sem α}{Q Q':α->Shared->Prop}{M:Model}{A:Around}{E:Value->Shared->Prop}{s:Shared} (h:wpAny M A t Q E s) (hQ:∀a s,Q a s->Q' a s):wpAny M A t Q' E s:=BG h hQ fun _ _ x=>x
end L2
namespace L2
open PySem PySem.Spec PyProof.Rows
section
variable {X:Cx}
def ob_ (i:Nat):TE:=fun σ H Q=>∃v,σ[i]? =some (some v)/\Q v H
def tC (v:V):TE:=fun _ H Q=>Q v H
theorem p5_ {i:Nat}{x:Str}{pos:Pos} (hN:X.N[i]? =some x) (hv:Vis X.env.scope x) (hd:(x==("__debug__":Str))=false:=by decide) (hcd:(x==("__classdict__":Str))=false:=by decide):PE X (.Name x pos) (ob_ i):=by
 intro pins s σ H Q I h;obtain⟨v,e,h⟩:=h;obtain⟨m,hn,hl⟩:=I.loc;obtain⟨u,r,l⟩:=hl i x v hN e hv;have fin:EP X pins σ Q u s:=⟨v,H,I,r,h⟩;rcases l with⟨hk,hm⟩|⟨hk,c,hc,hcell⟩
 .exact wpAny_Name (wpAny_loadName_local I.ok.kind hk hn hm fin) hd
 .rcases hk with hk|hk
  .exact wpAny_Name (wpAny_loadName_cell I.ok.kind hk hc hcell fin) hd
  .exact wpAny_Name (wpAny_loadName_free I.ok.kind hk hc hcell fin hcd) hd
theorem ad_ {i j pos}:PE X (.Constant (.int i) j pos) (tC (.int i)):=fun _ _ _ H _ I h=>wpAny_Constant_int ⟨.int i,H,I.tok _,⟨_,rfl⟩,h⟩
theorem ex_ {b j pos}:PE X (.Constant (.bool b) j pos) (tC (.bl b)):=fun _ _ _ H _ I h=>Constant_bool ⟨.bl b,H,I,rfl,h⟩
theorem kS_ {j pos}:PE X (.Constant .none j pos) (tC .non):=fun _ _ _ H _ I h=>Constant_none ⟨.non,H,I,rfl,h⟩
theorem ev_ {x j pos}:PE X (.Constant (.str x) j pos) (tC (.str x)):=fun _ _ _ H _ I h=>Calls.Constant_str ⟨.str x,H,I.tok _,⟨_,rfl⟩,h⟩
def Gl (X:Cx) (x:Str):Prop:=X.env.kindOf x=some .globalImplicit
theorem eO_ {E:Value->Shared->Prop}{pins:List (Addr×Obj)}{s:Shared}{σ:St}{H:Hp}{x:Str}{u:Value}{pos:Pos}{Q:Value->Shared->Prop} (I:Inv X pins σ H s) (hg:Gl X x) (hm:X.mg x=some u) (h:Q u s)
  (hd:(x==("__debug__":Str))=false:=by decide):wpAny (model X.prog X.w) X.A (eval (.Name x pos) X.env) Q E s:=
 Calls.Name_function_global I.ok.kind hg (Calls.loadGlobal_global (by rw [I.ok.glob];exact I.mod.glob.keeps I.bk) hm h) hd
theorem cG_ {E:Value->Shared->Prop}{pins:List (Addr×Obj)}{s:Shared}{σ:St}{H:Hp}{x:Str}{u:Value}{pos:Pos}{Q:Value->Shared->Prop} (I:Inv X pins σ H s) (hg:Gl X x) (hm:X.mg x=none) (hv:bootBuiltins x=some u) (h:Q u s)
  (hn:x≠"__name__":=by decide) (hd:(x==("__debug__":Str))=false:=by decide):wpAny (model X.prog X.w) X.A (eval (.Name x pos) X.env) Q E s:=by
 obtain⟨mb,h1,h2⟩:=I.mod.blt;exact Calls.Name_function_global I.ok.kind hg (Calls.loadGlobal_builtin (by rw [I.ok.glob];exact I.mod.glob.keeps I.bk) hm (by rw [I.ok.blt];exact h1.keeps I.bk) ((h2 x hn).trans hv) h) hd
theorem b0_ {x:Str}{v:V}{u:Value}{pos:Pos} (hg:Gl X x) (hm:X.mg x=some u) (r:aV_ v u) (hd:(x==("__debug__":Str))=false:=by decide):PE X (.Name x pos) (tC v):=
 fun _ _ _ H _ I h=>eO_ I hg hm ⟨v,H,I,r,h⟩ hd
theorem dG_ {x:Str}{v:V}{u:Value}{pos:Pos} (hg:Gl X x) (hm:X.mg x=none) (hv:bootBuiltins x=some u) (r:aV_ v u) (hn:x≠"__name__":=by decide) (hd:(x==("__debug__":Str))=false:=by decide):PE X (.Name x pos) (tC v):=
 fun _ _ _ H _ I h=>cG_ I hg hm hv ⟨v,H,I,r,h⟩ hn hd
variable {a b:Expr}{ta tb:TE}{pos:Pos}
def PC (X:Cx) (op:CmpOp) (a b:Expr) (t:TE):Prop:=
 ∀(pins:List (Addr×Obj)) (s:Shared) (σ:St) (H:Hp) (Q:VK),Inv X pins σ H s->t σ H Q->
  wpAny (model X.prog X.w) X.A (eval a X.env) (fun v s₁=>wpAny (model X.prog X.w) X.A (eval b X.env) (fun u s₂=>wpAny (model X.prog X.w) X.A (compareOp op v u) (EP X pins σ Q) X.xe s₂) X.xe s₁) X.xe s
theorem mM_ (b:Expr) {op:CmpOp} (h:op≠ .In) (h2:op≠ .NotIn):behindInMarks op b=false:=by
 have e1:(op==CmpOp.In)=false:=by cases op<;>first|rfl|exact absurd rfl h
 have e2:(op==CmpOp.NotIn)=false:=by cases op<;>first|rfl|exact absurd rfl h2
 cases b<;>simp [behindInMarks,e1,e2]
def tB (t:TE):TT:=fun σ H Q=>t σ H fun x H1=>∃c,x= .bl c/\Q c H1
theorem p1_ {op:CmpOp}{t:TE} (h:PC X op a b t) (h1:behindInMarks op b=false:=by first|exact mM_ _ (by decide) (by decide)|rfl):PT X (.Compare a [op] [b] pos) (tB t):=by
 intro pins s σ H Q I hw;refine wpAny_isTrue_Compare1 (thn (h pins s σ H _ I hw) fun v s1 h1=>thn h1 fun u s2 h2=>thn h2 fun c s3 ⟨x,H1,I1,r1,q1⟩=> ?_) h1;obtain⟨d,rfl,q⟩:=q1;cases r1;exact Bc ⟨H1,I1,q⟩
theorem di_ {e:Expr}{t:TE} (h:PE X e t) (he:∀whole,isTrue e X.env whole=(do let v<-whole;standAt e.pos;holding [v] (truthy v)):=by intro _;rfl):PT X e (tB t):=by
 intro pins s σ H Q I hw;refine isTrue_plain (thn (h pins s σ H _ I hw) fun v s1 ⟨x,H1,I1,r1,q1⟩=> ?_) (he _);obtain⟨d,rfl,q⟩:=q1;cases r1;exact Bc ⟨H1,I1,q⟩
variable {tA tB':TT}{ci_:List Expr}
def sK_ (t u:TT):TT:=fun σ H Q=>t σ H fun c H1=>if c=true then u σ H1 Q else Q false H1
def tOr (t u:TT):TT:=fun σ H Q=>t σ H fun c H1=>if c=true then Q true H1 else u σ H1 Q
def sD_ (t:TT):TT:=fun σ H Q=>t σ H fun c H1=>Q (!c) H1
theorem kI_ (ha:PT X a tA):PW X (.BoolOp .And [a] pos) tA:=by
 intro wh pins s σ H Q I h;refine isTrue_and (thn (ha pins s σ H Q I h) fun c s1 e=> ?_);cases c with
 |true=>exact isTrue_and_nil e
 |false=>exact e
theorem dT_ (ha:PT X a tA):PW X (.BoolOp .Or [a] pos) tA:=by
 intro wh pins s σ H Q I h;refine isTrue_or (thn (ha pins s σ H Q I h) fun c s1 e=> ?_);cases c with
 |false=>exact isTrue_or_nil e
 |true=>exact e
theorem nx_ (ha:PT X a tA) (hb:PW X (.BoolOp .And (b::ci_) pos) tB'):PW X (.BoolOp .And (a::b::ci_) pos) (sK_ tA tB'):=by
 intro wh pins s σ H Q I h;refine isTrue_and (thn (ha pins s σ H _ I h) fun c s1 ⟨H1,I1,q1⟩=> ?_);cases c with
 |true=>exact hb wh pins s1 σ H1 Q I1 q1
 |false=>exact⟨H1,I1,q1⟩
theorem fN_ (ha:PT X a tA) (hb:PW X (.BoolOp .Or (b::ci_) pos) tB'):PW X (.BoolOp .Or (a::b::ci_) pos) (tOr tA tB'):=by
 intro wh pins s σ H Q I h;refine isTrue_or (thn (ha pins s σ H _ I h) fun c s1 ⟨H1,I1,q1⟩=> ?_);cases c with
 |true=>exact⟨H1,I1,q1⟩
 |false=>exact hb wh pins s1 σ H1 Q I1 q1
theorem cQ_ (ha:PT X a tA):PT X (.UnaryOp .Not a pos) (sD_ tA):=by
 intro pins s σ H Q I h;exact isTrue_not (ha pins s σ H (fun c H1=>Q (!c) H1) I h)
def ru_ (ta tb:TE):TE:=fun σ H Q=>ta σ H fun x H1=>∃c,x= .bl c/\if c=true then tb σ H1 Q else Q (.bl false) H1
def sC_ (ta tb:TE):TE:=fun σ H Q=>ta σ H fun x H1=>∃c,x= .bl c/\if c=true then Q (.bl true) H1 else tb σ H1 Q
def rm_ (ta:TE):TE:=fun σ H Q=>ta σ H fun x H1=>∃c,x= .bl c/\Q (.bl (!c)) H1
theorem gM_ {op}{t:TE} (h:PE X a t):PE X (.BoolOp op [a] pos) t:=fun pins s σ H Q I hw=>BoolOp_one (h pins s σ H Q I hw)
theorem iK_ (ha:PE X a ta) (hb:PE X (.BoolOp .And (b::ci_) pos) tb):PE X (.BoolOp .And (a::b::ci_) pos) (ru_ ta tb):=by
 intro pins s σ H Q I h;refine BoolOp_and (thn (ha pins s σ H _ I h) fun v s1 ⟨x,H1,I1,r1,q1⟩=> ?_);obtain⟨c,rfl,q1⟩:=q1;cases r1;refine Bc ?_;cases c with
 |true=>exact hb pins s1 σ H1 Q I1 q1
 |false=>exact⟨.bl false,H1,I1,rfl,q1⟩
theorem rZ_ (ha:PE X a ta) (hb:PE X (.BoolOp .Or (b::ci_) pos) tb):PE X (.BoolOp .Or (a::b::ci_) pos) (sC_ ta tb):=by
 intro pins s σ H Q I h;refine BoolOp_or (thn (ha pins s σ H _ I h) fun v s1 ⟨x,H1,I1,r1,q1⟩=> ?_);obtain⟨c,rfl,q1⟩:=q1;cases r1;refine Bc ?_;cases c with
 |false=>exact hb pins s1 σ H1 Q I1 q1
 |true=>exact⟨.bl true,H1,I1,rfl,q1⟩
theorem nA_ (ha:PE X a ta):PE X (.UnaryOp .Not a pos) (rm_ ta):=by
 intro pins s σ H Q I h;refine UnaryOp_ (thn (ha pins s σ H _ I h) fun v s1 ⟨x,H1,I1,r1,q1⟩=> ?_);obtain⟨c,rfl,q1⟩:=q1;cases r1;exact not_of (Bc ⟨.bl (!c),H1,I1,rfl,q1⟩)
def tIf (t:TT) (ta tb:TE):TE:=fun σ H Q=>t σ H fun c H1=>if c=true then ta σ H1 Q else tb σ H1 Q
theorem iJ_ {c:Expr} (hc:PT X c tA) (ha:PE X a ta) (hb:PE X b tb):PE X (.IfExp c a b pos) (tIf tA ta tb):=by
 intro pins s σ H Q I h;refine wpAny_IfExp (thn (hc pins s σ H _ I h) fun d s1 ⟨H1,I1,q1⟩=> ?_);cases d with
 |true=>exact ha pins s1 σ H1 Q I1 q1
 |false=>exact hb pins s1 σ H1 Q I1 q1
end
end L2
namespace L2
open PySem PySem.Spec PyProof.Rows
def SqL (K:W.Frag) (H:Hp) (a:Addr) (xs:List V):Prop:=
 Rd H a (.lst xs)\/
  ∃(o:Obj) (its:Array Value) (n:Nat),K.lookup a=some o/\o.cls= .type "list"/\o.dict=none/\o.data= .seq its n/\its.size<=sizeLine/\aP_ xs its.toList
def SqT (K:W.Frag) (H:Hp) (a:Addr) (xs:List V):Prop:=
 Rd H a (.tup xs)\/
  ∃(o:Obj) (its:Array Value) (n:Nat),K.lookup a=some o/\o.cls= .type "tuple"/\o.data= .seq its n/\its.size<=sizeLine/\aP_ xs its.toList
def s8_:Value->Option V
 | .none=>some .non
 | .bool b=>some (.bl b)
 | .int i _=>some (.int i)
 | .str x _=>some (.str x)
 | .bytes b _=>some (.byt b)
 | .float b _=>some (.flt b)
 | .ref a=>some (.ref a)
 | .type n=>some (.ty n)
 |_=>none
theorem aV_.abs {x:V}{u:Value} (r:aV_ x u):s8_ u=some x:=by
 cases x with
 |non=>cases r;rfl
 |bl _=>cases r;rfl
 |int _=>obtain⟨t,rfl⟩:=r;rfl
 |str _=>obtain⟨t,rfl⟩:=r;rfl
 |byt _=>obtain⟨t,rfl⟩:=r;rfl
 |flt _=>obtain⟨t,rfl⟩:=r;rfl
 |ref _=>cases r;rfl
 |ty _=>cases r;rfl
theorem aV_.inj {x y:V}{u:Value} (r:aV_ x u) (q:aV_ y u):x=y:=Ac (r.abs.symm.trans q.abs)
theorem aP_.inj:∀{xs ys:List V}{us:List Value},aP_ xs us->aP_ ys us->xs=ys
 |_,_,_, .nil, .nil=>rfl
 |_,_,_, .cons r t, .cons r' t'=>by rw [r.inj r',aP_.inj t t']
section
variable {X:Cx}{pins:List (Addr×Obj)}{σ:St}{H:Hp}{s:Shared}{a:Addr}{xs ys:List V}
theorem SqL.of {K:W.Frag} (h:H a=some (.lst xs)):SqL K H a xs:= .inl (.inl h)
theorem SqT.of {K:W.Frag} (h:H a=some (.tup xs)):SqT K H a xs:= .inl (.inl h)
theorem Inv.list (I:Inv X pins σ H s) (h:SqL X.K H a xs):∃its:List Value,aP_ xs its/\PlainL s.heap a its.toArray/\xs.length<=sizeLine:=by
 rcases h with h|⟨o,its,n,hk,hc,hd,hs,hz,r⟩
 .obtain⟨z,its,n,r,e⟩:=h.ok I.hok;exact⟨its,r,⟨_,n,e,rfl,rfl,rfl⟩,z⟩
 .refine⟨its.toList,r,⟨o,n,I.kIn a o hk,hc,hd,by simpa using hs⟩, ?_⟩;have e:=r.length;simp only [B1] at e;lia
theorem Inv.tuple (I:Inv X pins σ H s) (h:SqT X.K H a xs):∃its:List Value,aP_ xs its/\IsTup s.heap a its.toArray/\xs.length<=sizeLine:=by
 rcases h with h|⟨o,its,n,hk,hc,hs,hz,r⟩
 .obtain⟨z,its,r,p⟩:=h.ok I.hok;exact⟨its,r,p,z⟩
 .refine⟨its.toList,r,⟨o,I.kIn a o hk,hc,n,by simpa using hs⟩, ?_⟩;have e:=r.length;simp only [B1] at e;lia
theorem Inv.list_inj (I:Inv X pins σ H s) (h:SqL X.K H a xs) (h':SqL X.K H a ys):xs=ys:=by
 obtain⟨its,r,⟨o,n,e,_,_,d⟩,_⟩:=I.list h;obtain⟨its',r',⟨o',n',e',_,_,d'⟩,_⟩:=I.list h';rw [e] at e';cases e';rw [d] at d';injection d' with d1 _;have:its=its':=by simpa using congrArg Array.toList d1
 subst this;exact r.inj r'
theorem Inv.tuple_inj (I:Inv X pins σ H s) (h:SqT X.K H a xs) (h':SqT X.K H a ys):xs=ys:=by
 obtain⟨its,r,⟨o,e,_,n,d⟩,_⟩:=I.tuple h;obtain⟨its',r',⟨o',e',_,n',d'⟩,_⟩:=I.tuple h';rw [e] at e';cases e';rw [d] at d';injection d' with d1 _;have:its=its':=by simpa using congrArg Array.toList d1
 subst this;exact r.inj r'
end
abbrev Cx.wish (X:Cx) (E:Value->Shared->Prop):Cx:={X with xe:=E}
abbrev Cx.nox (X:Cx):Cx:=X.wish fun _ _=>False
theorem Cx.Ok.wish {X:Cx} (ok:X.Ok) (E:Value->Shared->Prop):(X.wish E).Ok:=
 ⟨ok.mod,ok.kind,ok.glob,ok.blt,ok.above,ok.inj,ok.has,ok.cab,ok.hd,ok.frames,ok.stk,ok.exf,ok.bs,ok.bsz,ok.noex,ok.exfs,ok.funs,ok.frf⟩
theorem Cx.Ok.unwish {X:Cx}{E:Value->Shared->Prop} (ok:(X.wish E).Ok):X.Ok:=
 ⟨ok.mod,ok.kind,ok.glob,ok.blt,ok.above,ok.inj,ok.has,ok.cab,ok.hd,ok.frames,ok.stk,ok.exf,ok.bs,ok.bsz,ok.noex,ok.exfs,ok.funs,ok.frf⟩
section
variable {X:Cx}{pins:List (Addr×Obj)}{σ:St}{H:Hp}{s:Shared}{E:Value->Shared->Prop}
theorem Inv.wish (I:Inv X pins σ H s) (E:Value->Shared->Prop):Inv (X.wish E) pins σ H s:=⟨I.ok.wish E,I.os,I.bare,I.base,I.loc,I.cell,I.free,I.freeC,I.pin,I.hok,I.len⟩
theorem Inv.unwish (I:Inv (X.wish E) pins σ H s):Inv X pins σ H s:=⟨I.ok.unwish,I.os,I.bare,I.base,I.loc,I.cell,I.free,I.freeC,I.pin,I.hok,I.len⟩
theorem SP.unwish {D:Ends}{f:Flow}{s':Shared} (h:SP (X.wish E) pins D f s'):SP X pins D f s':=by
 cases f with
 |next=>obtain⟨σ',H',I,q⟩:=h;exact⟨σ',H',I.unwish,q⟩
 |brk=>obtain⟨σ',H',I,q⟩:=h;exact⟨σ',H',I.unwish,q⟩
 |cont=>obtain⟨σ',H',I,q⟩:=h;exact⟨σ',H',I.unwish,q⟩
 |ret u=>obtain⟨v,σ',H',I,r,q⟩:=h;exact⟨v,σ',H',I.unwish,r,q⟩
theorem PSs.nox {st:List Stmt}{t:TS} (h:PSs X.nox st t):PSs X st t:=fun pins s σ H D I hw=>
 BG (h pins s σ H D (I.wish _) hw) (fun _ _ q=>q.unwish) fun _ _ z=>False.elim z
end
section
variable {X:Cx}{st:Stmt}{ci_:List Stmt}{t u:TS}{e:Expr}{te:TE}{pos:Pos}
def ro_:TS:=fun D σ H=>D.nx σ H
def sA_ (t u:TS):TS:=fun D σ H=>t {D with nx:=u D} σ H
theorem ax_:PSs X [] ro_:=fun _ _ σ H _ I h=>Ch ⟨σ,H,I,h⟩
theorem ac_ (h1:PS X st t) (h2:PSs X ci_ u):PSs X (st::ci_) (sA_ t u):=by
 intro pins s σ H D I h;refine wpAny_execs_cons (thn (h1 pins s σ H {D with nx:=u D} I h) fun f s1 q=> ?_);cases f with
 |next=>
  obtain⟨σ',H',I',q⟩:=q;exact h2 pins s1 σ' H' D I' q
 |ret v=>exact q
 |brk=>exact q
 |cont=>exact q
theorem af_ (h1:PS X st t):PSs X [st] t:=by
 intro pins s σ H D I h;refine wpAny_execs_cons (thn (h1 pins s σ H D I h) fun f s1 q=> ?_);cases f with
 |next=>exact Ch q
 |ret v=>exact q
 |brk=>exact q
 |cont=>exact q
theorem Inv.quiet {pins:List (Addr×Obj)}{σ:St}{H:Hp}{s:Shared} (I:Inv X pins σ H s):interactive X.env=false:=by simp [interactive,I.ok.kind]
def pD_ (te:TE):TS:=fun D σ H=>te σ H fun _ H1=>D.nx σ H1
theorem aN_ (he:PE X e te) (hs:swapsWith e none pos.line X.env=pure false:=by rfl):PS X (.Expr e pos) (pD_ te):=by
 intro pins s σ H D I h;exact wpAny_Expr_any (thn (he pins s σ H _ I h) fun v s1 ⟨x,H1,I1,r1,q1⟩=>⟨σ,H1,I1,q1⟩) I.quiet hs
def sB_ (te:TE):TS:=fun D σ H=>te σ H D.rt
theorem ap_ (he:PE X e te):PS X (.Return (some e) pos) (sB_ te):=by
 intro pins s σ H D I h;exact wpAny_Return_some (thn (he pins s σ H _ I h) fun v s1 ⟨x,H1,I1,r1,q1⟩=>⟨x,σ,H1,I1,r1,q1⟩)
def sG_ (c:TT) (t u:TS):TS:=fun D σ H=>c σ H fun b H1=>if b=true then t D σ H1 else u D σ H1
theorem a2_ {c:Expr}{a b:List Stmt}{tc:TT} (hc:PT X c tc) (ha:PSs X a t) (hb:PSs X b u):PS X (.If c a b pos) (sG_ tc t u):=by
 intro pins s σ H D I h;refine wpAny_If (thn (hc pins s σ H _ I h) fun d s1 ⟨H1,I1,q1⟩=> ?_);cases d with
 |true=>exact ha pins s1 σ H1 D I1 q1
 |false=>exact hb pins s1 σ H1 D I1 q1
end
abbrev TG:=V->St->Hp->(St->Hp->Prop)->Prop
abbrev TGs:=List V->St->Hp->(St->Hp->Prop)->Prop
def PG (X:Cx) (target:Expr) (t:TG):Prop:=
 ∀(pins:List (Addr×Obj)) (s:Shared) (σ:St) (H:Hp) (v:V) (u:Value) (Q:St->Hp->Prop),Inv X pins σ H s->aV_ v u->t v σ H Q->
  wpAny (model X.prog X.w) X.A (assign target X.env u) (fun _ s'=>∃σ' H',Inv X pins σ' H' s'/\Q σ' H') X.xe s
def PGs (X:Cx) (ts:List Expr) (t:TGs):Prop:=
 ∀(pins:List (Addr×Obj)) (s:Shared) (σ:St) (H:Hp) (vs:List V) (us:List Value) (Q:St->Hp->Prop),Inv X pins σ H s->aP_ vs us->t vs σ H Q->
  wpAny (model X.prog X.w) X.A (assignInOrder ((assignEach ts X.env).map (·.2)) us) (fun _ s'=>∃σ' H',Inv X pins σ' H' s'/\Q σ' H') X.xe s
abbrev q2_:=V->V->V->Hp->(Hp->Prop)->Prop
def sh_ (X:Cx) (t:q2_):Prop:=
 ∀(pins:List (Addr×Obj)) (s:Shared) (σ:St) (H:Hp) (o i v:V) (ov iv u:Value) (Q:Hp->Prop),Inv X pins σ H s->aV_ o ov->aV_ i iv->aV_ v u->t o i v H Q->
  wpAny (model X.prog X.w) X.A (setItem ov iv u) (fun _ s'=>∃H',Inv X pins σ H' s'/\Q H') X.xe s
abbrev TIp:=V->V->Hp->VK->Prop
def PIp (X:Cx) (op:Operator) (t:TIp):Prop:=
 ∀(pins:List (Addr×Obj)) (s:Shared) (σ:St) (H:Hp) (x y:V) (v u:Value) (Q:VK),Inv X pins σ H s->aV_ x v->aV_ y u->t x y H Q->
  wpAny (model X.prog X.w) X.A (inplaceOp op v u) (EP X pins σ Q) X.xe s
section
variable {X:Cx}{pos:Pos}
def d7_ (i:Nat):TG:=fun v σ H Q=>Q (σ.set i (some v)) H
theorem am_ {i:Nat}{x:Str} (hN:X.N.Nodup) (hi:X.N[i]? =some x) (hx:Loc X.env.scope x) (hf:X.fn x=true\/X.env.scope.names.lookup x=some .local:=by first|exact .inl rfl|exact .inr rfl|assumption):PG X (.Name x pos) (d7_ i):=by
 intro pins s σ H v u Q I r h;exact wpAny_assign_Name (d9_ I hN hi hx r (fun s' I'=>⟨_,H,I',h⟩) hf)
def ra_:TGs:=fun vs σ H Q=>vs=[]/\Q σ H
def id_ (t:TG) (u:TGs):TGs:=fun vs σ H Q=>∃v r,vs=v::r/\t v σ H fun σ' H'=>u r σ' H' Q
theorem a5_:PGs X [] ra_:=by
 intro pins s σ H vs us Q I r h;obtain⟨e,h⟩:=h;subst e;cases r;exact assignInOrder_nil ⟨σ,H,I,h⟩
theorem aq_ {e:Expr}{es:List Expr}{t:TG}{u:TGs} (h1:PG X e t) (h2:PGs X es u)
  (hs:(assignEach (e::es) X.env).map (·.2)=assign e X.env::(assignEach es X.env).map (·.2):=by rfl):PGs X (e::es) (id_ t u):=by
 intro pins s σ H vs us Q I r h;obtain⟨v,vr,e1,h⟩:=h;subst e1;cases r with
 |cons r rr=>
  rw [hs];refine assignInOrder_cons (thn (h1 pins s σ H _ _ _ I r h) fun _ s1 ⟨σ1,H1,I1,q1⟩=> ?_);exact h2 pins s1 σ1 H1 _ _ Q I1 rr q1
def qE_ (K:W.Frag) (n:Nat) (t:TGs):TG:=fun v σ H Q=>∃a xs,v= .ref a/\SqT K H a xs/\xs.length=n/\t xs σ H Q
theorem bM_ {es:List Expr}{k:Nat}{t:TGs}{n:Nat} (hc:X.calm=true) (h:PGs X es t)
  (hn:(assignEach es X.env).length=n:=by rfl) (hst:(assignEach es X.env).findIdx? (·.1)=none:=by rfl):PG X (.Tuple es k pos) (qE_ X.K n t):=by
 intro pins s σ H v u Q I r hw;obtain⟨a,xs,e1,hq,hl,hw⟩:=hw;subst e1;cases r;obtain⟨its,rv,ht,hz⟩:=I.tuple hq;refine assign_Tuple_tuple (I.ok.hd hc) ht (by simp [hn,<-hl,rv.length]) hst fun h' hx=> ?_;have I1:Inv X pins σ H {s with heap:=h'}:=I.kept (t':=s.toks) fun b o e=>hx b o (AJ (AG e)) e;exact h pins _ σ H xs _ Q I1 (by simpa using rv) hw
def s5_ (to ti:TE) (t:q2_):TG:=fun v σ H Q=>to σ H fun o H1=>ti σ H1 fun i H2=>t o i v H2 fun H3=>Q σ H3
theorem kQ_ {o i:Expr}{to ti:TE}{t:q2_} (ho:PE X o to) (hi:PE X i ti) (hs:sh_ X t)
  (ha:∀v,assign (.Subscript o i pos) X.env v=(do
   let ov<-holding [v] (eval o X.env)
   let iv<-holding [v,ov] (eval i X.env)
   standAt pos
   holding [v,ov,iv] (setItem ov iv v)
   release [v,ov,iv] []):=by intro _;rfl):PG X (.Subscript o i pos) (s5_ to ti t):=by
 intro pins s σ H v u Q I r h;rw [ha];refine A0 (An (thn (ho pins s σ H _ I h) fun ov s1 ⟨x,H1,I1,r1,q1⟩=> ?_));refine A0 (An (thn (hi pins s1 σ H1 _ I1 q1) fun iv s2 ⟨y,H2,I2,r2,q2⟩=> ?_));refine A0 (wpAny_standAt (A0 (An (thn (hs pins s2 σ H2 x y v ov iv u _ I2 r1 r2 r q2) fun _ s3 ⟨H3,I3,q3⟩=> ?_))));exact wpAny_release ⟨σ,H3,I3,q3⟩
def so_ (te:TE) (g:TG):TS:=fun D σ H=>te σ H fun x H1=>g x σ H1 D.nx
theorem iH_ {tg e:Expr}{te:TE}{g:TG} (he:PE X e te) (hg:PG X tg g) (hs:swapsWithSole [tg] e pos.line X.env=pure false:=by rfl) (hw:swappedStores [tg] e X.env=pure none:=by rfl)
  (h1:(assignEach [tg] X.env).map (·.2)=[assign tg X.env]:=by rfl):PS X (.Assign [tg] e pos) (so_ te g):=by
 intro pins s σ H D I h;refine wpAny_Assign_stores (thn (he pins s σ H _ I h) fun v s1 ⟨x,H1,I1,r1,q1⟩=> ?_) hs hw;rw [h1];exact thn (hg pins s1 σ H1 x v _ I1 r1 q1) fun _ s2 q=>q
theorem an_ {i:Nat}{x:Str}{e:Expr}{te:TE}{pos':Pos} (hN:X.N.Nodup) (hi:X.N[i]? =some x) (hx:Loc X.env.scope x) (he:PE X e te) (hs:swapsWith e (some (.Name x pos')) pos.line X.env=pure false:=by rfl) (hf:X.fn x=true\/X.env.scope.names.lookup x=some .local:=by first|exact .inl rfl|exact .inr rfl|assumption):
  PS X (.Assign [.Name x pos'] e pos) (so_ te (d7_ i)):=by
 intro pins s σ H D I h;refine wpAny_Assign_Name (thn (he pins s σ H _ I h) fun v s1 ⟨y,H1,I1,r1,q1⟩=> ?_) hs;exact d9_ I1 hN hi hx r1 (fun s2 I2=>⟨_,H1,I2,q1⟩) hf
def sJ_ (i:Nat) (te:TE) (ti:TIp):TS:=fun D σ H=>∃x,σ[i]? =some (some x)/\te σ H fun y H1=>ti x y H1 fun z H2=>D.nx (σ.set i (some z)) H2
theorem fi_ {i:Nat}{x:Str}{e:Expr}{te:TE}{op:Operator}{ti:TIp}{pos':Pos} (hN:X.N.Nodup) (hi:X.N[i]? =some x) (hx:Loc X.env.scope x) (he:PE X e te) (ho:PIp X op ti) (hf:X.fn x=true\/X.env.scope.names.lookup x=some .local:=by first|exact .inl rfl|exact .inr rfl|assumption):
  PS X (.AugAssign (.Name x pos') op e pos) (sJ_ i te ti):=by
 intro pins s σ H D I h;obtain⟨v,e1,h⟩:=h;obtain⟨m,hn,hl⟩:=I.loc;have vis:Vis X.env.scope x:=by rcases hx with k|k;exact .inl k;exact .inr (.inl k)
 obtain⟨u,r,l⟩:=hl i x v hi e1 vis;refine wpAny_AugAssign_Name ?_;have go:wpAny (model X.prog X.w) X.A (eval e X.env) (fun w s₂=>wpAny (model X.prog X.w) X.A (inplaceOp op u w) (fun r s₃=>wpAny (model X.prog X.w) X.A (storeName X.env x r) (fun _=>SP X pins D .next) X.xe s₃) X.xe s₂) X.xe s:=by
  refine thn (he pins s σ H _ I h) fun w s1 ⟨y,H1,I1,r1,q1⟩=> ?_;refine thn (ho pins s1 σ H1 v y u w _ I1 r r1 q1) fun z s2 ⟨zv,H2,I2,r2,q2⟩=> ?_;exact d9_ I2 hN hi hx r2 (fun s3 I3=>⟨_,H2,I3,q2⟩) hf
 rcases l with⟨hk,hm⟩|⟨hk,c,hc,hcell⟩
 .exact wpAny_loadName_local I.ok.kind hk hn hm go
 .rcases hk with hk|hk
  .exact wpAny_loadName_cell I.ok.kind hk hc hcell go
  .rcases hx with k|k
   .have:X.env.scope.names.lookup x=some .free:=hk;rw [k] at this;cases this
   .have:X.env.scope.names.lookup x=some .free:=hk;rw [k] at this;cases this
def rt_ (to ti te:TE) (tget:V->V->Hp->VK->Prop) (tip:TIp) (tset:q2_):TS:=fun D σ H=>to σ H fun o H1=>ti σ H1 fun i H2=>tget o i H2 fun x H3=>te σ H3 fun y H4=>tip x y H4 fun z H5=>tset o i z H5 fun H6=>D.nx σ H6
def sv_ (X:Cx) (t:V->V->Hp->VK->Prop):Prop:=
 ∀(pins:List (Addr×Obj)) (s:Shared) (σ:St) (H:Hp) (o i:V) (ov iv:Value) (Q:VK),Inv X pins σ H s->aV_ o ov->aV_ i iv->t o i H Q->
  wpAny (model X.prog X.w) X.A (getItem ov iv) (EP X pins σ Q) X.xe s
theorem kK_ {o i e:Expr}{to ti te:TE}{tget:V->V->Hp->VK->Prop}{tip:TIp}{tset:q2_}{op:Operator}{tpos:Pos} (ho:PE X o to) (hi:PE X i ti) (hg:sv_ X tget) (he:PE X e te) (hp:PIp X op tip) (hs:sh_ X tset)
  (ha:∀ov iv new,augStore i ov iv new=(do holding [new,ov,iv] (setItem ov iv new);release [new,ov,iv] [];pure .next):=by intros;rfl):PS X (.AugAssign (.Subscript o i tpos) op e pos) (rt_ to ti te tget tip tset):=by
 intro pins s σ H D I h;refine wpAny_AugAssign_SubscriptAny (thn (ho pins s σ H _ I h) fun ov s1 ⟨x1,H1,I1,r1,q1⟩=> ?_) ha;refine thn (hi pins s1 σ H1 _ I1 q1) fun iv s2 ⟨x2,H2,I2,r2,q2⟩=> ?_;refine thn (hg pins s2 σ H2 x1 x2 ov iv _ I2 r1 r2 q2) fun old s3 ⟨x3,H3,I3,r3,q3⟩=> ?_;refine thn (he pins s3 σ H3 _ I3 q3) fun v s4 ⟨x4,H4,I4,r4,q4⟩=> ?_;refine thn (hp pins s4 σ H4 x3 x4 old v _ I4 r3 r4 q4) fun new s5 ⟨x5,H5,I5,r5,q5⟩=> ?_;exact thn (hs pins s5 σ H5 x1 x2 x5 ov iv new _ I5 r1 r2 r5 q5) fun _ s6 ⟨H6,I6,q6⟩=>⟨σ,H6,I6,q6⟩
def ipI (f:Int->Int->Int):TIp:=fun x y H Q=>∃i j,x= .int i/\y= .int j/\Q (.int (f i j)) H
theorem i5_:PIp X .Add (ipI fun i j=>i+j):=by
 intro pins s σ H x y v u Q I r1 r2 h;obtain⟨i,j,e1,e2,q⟩:=h;subst e1;subst e2;obtain⟨t,rfl⟩:=r1;obtain⟨t',rfl⟩:=r2;exact iadd_int ⟨.int _,H,I.tok _,⟨_,rfl⟩,q⟩
theorem qA_:PIp X .Sub (ipI fun i j=>i-j):=by
 intro pins s σ H x y v u Q I r1 r2 h;obtain⟨i,j,e1,e2,q⟩:=h;subst e1;subst e2;obtain⟨t,rfl⟩:=r1;obtain⟨t',rfl⟩:=r2;exact isub_int ⟨.int _,H,I.tok _,⟨_,rfl⟩,q⟩
end
section
variable {X:Cx}{pos:Pos}
def nn_ (c:TT) (tb:TS):TS:=fun D σ H=>∃Wq:Nat->St->Hp->Prop,(∃m,Wq m σ H)/\∀m σ H,Wq m σ H->
 c σ H fun b H1=>if b=true then∃N:St->Hp->Prop,(∀σ' H',N σ' H'->∃m',m'<m/\Wq m' σ' H')/\tb {D with nx:=N,ct:=N,bk:=D.nx} σ H1 else D.nx σ H1
theorem iG_ {c:Expr}{body:List Stmt}{tc:TT}{tb:TS} (hp:PassesOwn (model X.prog X.w) X.A X.env X.xe) (hc:PT X c tc) (hb:PSs X body tb):PS X (.While c body [] pos) (nn_ tc tb):=by
 intro pins s σ H D I h;obtain⟨Wq,⟨m0,w0⟩,turn⟩:=h;refine wpAny_While (codeAny_whileLoop (fun n s'=>∃σ' H',Inv X pins σ' H' s'/\Wq n σ' H') ?_ m0 ⟨σ,H,I,w0⟩);rintro n s1 ⟨σ1,H1,I1,w1⟩;refine CJ hp (thn (hc pins s1 σ1 H1 _ I1 (turn n σ1 H1 w1)) fun b s2 ⟨H2,I2,q2⟩=> ?_);cases b with
 |true=>
  obtain⟨N,hN,q2⟩:=q2;rw [AA rfl];refine CJ hp (thn (hb pins s2 σ1 H2 _ I2 q2) fun f s3 q3=> ?_);cases f with
  |next=>
   obtain⟨σ3,H3,I3,n3⟩:=q3;obtain⟨m',hm,w3⟩:=hN σ3 H3 n3;exact⟨m',hm,σ3,H3,I3,w3⟩
  |cont=>
   obtain⟨σ3,H3,I3,n3⟩:=q3;obtain⟨m',hm,w3⟩:=hN σ3 H3 n3;exact⟨m',hm,σ3,H3,I3,w3⟩
  |brk=>exact q3
  |ret v=>exact q3
 |false=>
  rw [A9 AM];exact Ch ⟨σ1,H2,I2,q2⟩
end
structure It where
 go:Nat->Hp->Prop
 yld:Nat->Hp->V->Hp->Prop
 stop:Nat->Hp->Prop
def hD_ (X:Cx) (pins:List (Addr×Obj)) (H:Hp) (b:Addr):Prop:=
 H b=none/\b≠X.env.locals/\b∉X.fs/\(b∈X.ex\/X.s₀.heap.objs.size<=b)/\(∀x c,X.env.cells.lookup x=some c->c≠b)/\∀p∈X.pn++pins,p.1≠b
theorem Inv.fpOk {X:Cx}{pins:List (Addr×Obj)}{σ:St}{H H':Hp}{s:Shared}{b:Addr} (I:Inv X pins σ H s) (hb:s.heap.objs.size<=b) (hn:H' b=none):hD_ X pins H' b:=by
 refine⟨hn,BQ (AX I.lt hb),I.nofs hb, .inr (Az I.sz hb),fun x c e z=> ?_,fun p hp z=> ?_⟩
 .obtain⟨v,q⟩:=I.cell x c e;exact absurd (AX q.lt (by rw [z];exact hb)) (Bo _)
 .exact absurd (AX (AG (I.pin p hp).1) (by rw [z];exact hb)) (Bo _)
structure Turn (P:Program) (w:World) (K:W.Frag) (tg:Expr) (J:It) (fp:List Addr) (it:Addr) (tn:Nat->Heap->Prop):Prop where
 mem:it∈fp
 obj:∀i h,tn i h->∀b∈fp,∃o,h.get? b=some o/\∀v,o.data≠ .cell v
 keep:∀i h h',tn i h->(∀b∈fp,∀o,h.get? b=some o->h'.get? b=some o)->tn i h'
 item:∀(X:Cx),X.prog=P->X.w=w->X.K=K->X.calm=true->∀(i:Nat) (pins:List (Addr×Obj)) (s:Shared) (σ:St) (H:Hp) (E:Value->Shared->Prop),Inv X pins σ H s->(∀b∈fp,hD_ X pins H b)->tn i s.heap->J.go i H->
  wpAny (model P w) X.A (pyNext (.ref it)) (fun r s1=>∃u,r=some u/\
   wpAny (model P w) X.A (letOwnedTupleGo tg (.ref it) u) (fun _ s2=>∃x H',Inv X pins σ H' s2/\aV_ x u/\J.yld i H x H'/\tn (i+1) s2.heap/\∀b∈fp,H' b=none) E s1) E s
 done:∀(X:Cx),X.prog=P->X.w=w->X.K=K->X.calm=true->∀(i:Nat) (pins:List (Addr×Obj)) (s:Shared) (σ:St) (H:Hp) (E:Value->Shared->Prop),Inv X pins σ H s->(∀b∈fp,hD_ X pins H b)->tn i s.heap->J.stop i H->
  wpAny (model P w) X.A (pyNext (.ref it)) (fun r s1=>r=none/\Inv X pins σ H s1) E s
 self:∀(A:Around) (i:Nat) (s:Shared) (Q:Value->Shared->Prop) (E:Value->Shared->Prop),tn i s.heap->Q (.ref it) s->wpAny (model P w) A (pyIter (.ref it)) Q E s
abbrev TI:=St->Hp->(It->Hp->Prop)->Prop
def PIE (X:Cx) (pins:List (Addr×Obj)) (σ:St) (tg:Expr) (R:It->Hp->Prop) (itv:Value) (s2:Shared):Prop:=
 ∃(it:Addr) (fp:List Addr) (tn:Nat->Heap->Prop) (J:It) (H':Hp),itv= .ref it/\Inv X pins σ H' s2/\Turn X.prog X.w X.K tg J fp it tn/\tn 0 s2.heap/\(∀b∈fp,hD_ X pins H' b)/\R J H'
def PI (X:Cx) (tg iter:Expr) (wi:TI):Prop:=
 ∀(pins:List (Addr×Obj)) (s:Shared) (σ:St) (H:Hp) (R:It->Hp->Prop),Inv X pins σ H s->wi σ H R->
  wpAny (model X.prog X.w) X.A (eval iter X.env) (fun v s1=>wpAny (model X.prog X.w) X.A (pyIter v) (PIE X pins σ tg R) X.xe s1) X.xe s
theorem go_of {M : Model} {A : Around} {E : Value -> Shared -> Prop} {s : Shared} {tg : Expr} {it : Addr} {u : Value} {o : Obj} {n : String} {vs : Array Value} {Q : Unit -> Shared -> Prop} (ho : s.heap.get? it = some o) (hc : o.cls = .type n) (hd : o.data = .fields vs)
    (hn : ["enumerate", "zip", "dict_itemiterator", "dict_reverseitemiterator", "odict_iterator", "itertools.zip_longest", "itertools.pairwise"].contains n = false) (hQ : Q () s) : wpAny M A (letOwnedTupleGo tg (.ref it) u) Q E s := by
  unfold letOwnedTupleGo;cases tg <;> first
    | exact A2 hQ
    | (cases u <;> first
        | exact A2 hQ
        | (refine A0 (wpAny_load ho ?_)
           rw [hc, hd];show wpAny M A (if (["enumerate", "zip", "dict_itemiterator", "dict_reverseitemiterator", "odict_iterator", "itertools.zip_longest", "itertools.pairwise"].contains n && vs[0]? == some (rawInt _)) = true then _ else _) Q E s;rw [A9 (by intro h; rw [hn, Bool.false_and] at h; cases h)];exact A2 hQ))
def Itl (K:W.Frag) (a:Addr):It:=
 ⟨fun i H=>∃xs x,SqL K H a xs/\xs[i]? =some x,fun i H x H'=>H'=H/\∀xs,SqL K H a xs->xs[i]? =some x,fun i H=>∃xs,SqL K H a xs/\xs.length<=i⟩
def Itt (K:W.Frag) (a:Addr):It:=
 ⟨fun i H=>∃xs x,SqT K H a xs/\xs[i]? =some x,fun i H x H'=>H'=H/\∀xs,SqT K H a xs->xs[i]? =some x,fun i H=>∃xs,SqT K H a xs/\xs.length<=i⟩
def Itr (lo:Int) (n:Nat):It:=⟨fun i _=>i<n,fun i H x H'=>H'=H/\x= .int (lo+i),fun i _=>n<=i⟩
theorem kg_ {P:Program}{w:World}{K:W.Frag}{tg:Expr} (a it:Addr):Turn P w K tg (Itl K a) [it] it (fun i h=>h.IsListIter it a i) where
 mem:=by simp
 obj:=fun i h st b hb=>by
  have e:b=it:=by simpa using hb
  subst e;obtain⟨o,e,c,d⟩:=st;exact⟨o,e,fun v z=>by rw [d] at z;cases z⟩
 keep:=fun i h h' st k=>st.at fun o e=>k it (by simp) o e
 item:=by
  intro X hP hw hK hc i pins s σ H E I hf st hg;subst hP hw hK;obtain⟨xs,x,hq,hx⟩:=hg;obtain⟨its,rv,p,hz⟩:=I.list hq;obtain⟨u,hu,ru⟩:=rv.get hx;obtain⟨f0,f1,f2,f3,f4,f5⟩:=hf it (by simp);refine wpAny_pyNext_list_item st p.isList (x:=u) (by simpa using hu) fun h' st' sb=> ?_;have I1:Inv X pins σ H {s with heap:=h'}:=I.turned (t':=s.toks) (fun b o hb e=>(sb.2 b hb).trans e) f0 f1 f3 f4 f5;obtain⟨o,e,c,d⟩:=id st';exact⟨u,rfl,go_of (s:={s with heap:=h'}) e c d (by decide) ⟨x,H,I1,ru,⟨rfl,fun ys hy=>by rw [I.list_inj hy hq];exact hx⟩,st',fun b hb=>(hf b hb).1⟩⟩
 done:=by
  intro X hP hw hK hc i pins s σ H E I hf st hg;subst hP hw hK;obtain⟨xs,hq,hx⟩:=hg;obtain⟨its,rv,p,hz⟩:=I.list hq;obtain⟨f0,f1,f2,f3,f4,f5⟩:=hf it (by simp);have hl:=rv.length;exact wpAny_pyNext_list_end (I.ok.hd hc) st p.isList (by simp;lia) fun h' eb=>⟨rfl,I.turned (t':=s.toks) (fun b o hb e=>eb b o hb e) f0 f1 f3 f4 f5⟩
 self:=fun _ _ _ _ _ st h=>wpAny_pyIter_listiter st h
theorem js_ {P:Program}{w:World}{K:W.Frag}{tg:Expr} (a it:Addr):Turn P w K tg (Itt K a) [it] it (fun i h=>h.IsTupleIter it a i) where
 mem:=by simp
 obj:=fun i h st b hb=>by
  have e:b=it:=by simpa using hb
  subst e;obtain⟨o,e,c,d⟩:=st;exact⟨o,e,fun v z=>by rw [d] at z;cases z⟩
 keep:=fun i h h' st k=>st.at fun o e=>k it (by simp) o e
 item:=by
  intro X hP hw hK hc i pins s σ H E I hf st hg;subst hP hw hK;obtain⟨xs,x,hq,hx⟩:=hg;obtain⟨its,rv,p,hz⟩:=I.tuple hq;obtain⟨u,hu,ru⟩:=rv.get hx;obtain⟨f0,f1,f2,f3,f4,f5⟩:=hf it (by simp);refine wpAny_pyNext_tuple_item st (show s.heap.IsTuple a its.toArray from p) (x:=u) (by simpa using hu) fun h' st' sb=> ?_;have I1:Inv X pins σ H {s with heap:=h'}:=I.turned (t':=s.toks) (fun b o hb e=>(sb.2 b hb).trans e) f0 f1 f3 f4 f5;obtain⟨o,e,c,d⟩:=id st';exact⟨u,rfl,go_of (s:={s with heap:=h'}) e c d (by decide) ⟨x,H,I1,ru,⟨rfl,fun ys hy=>by rw [I.tuple_inj hy hq];exact hx⟩,st',fun b hb=>(hf b hb).1⟩⟩
 done:=by
  intro X hP hw hK hc i pins s σ H E I hf st hg;subst hP hw hK;obtain⟨xs,hq,hx⟩:=hg;obtain⟨its,rv,p,hz⟩:=I.tuple hq;obtain⟨f0,f1,f2,f3,f4,f5⟩:=hf it (by simp);have hl:=rv.length;exact wpAny_pyNext_tuple_end (I.ok.hd hc) st (show s.heap.IsTuple a its.toArray from p) (by simp;lia) fun h' eb=>⟨rfl,I.turned (t':=s.toks) (fun b o hb e=>eb b o hb e) f0 f1 f3 f4 f5⟩
 self:=fun _ _ _ _ _ st h=>wpAny_pyIter_tupleiter st h
theorem jt_ {P:Program}{w:World}{K:W.Frag}{tg:Expr} (it:Addr) (lo:Int) (n:Nat):Turn P w K tg (Itr lo n) [it] it (fun i h=>IsRangeIter h it (lo+(i:Nat)*1) ((n:Int)-(i:Nat)) 1) where
 mem:=by simp
 obj:=fun i h st b hb=>by
  have e:b=it:=by simpa using hb
  subst e;exact⟨_,st,fun v z=>by
   have z':Data.fields _=Data.cell v:=z;cases z'⟩
 keep:=fun i h h' st k=>k it (by simp) _ st
 item:=by
  intro X hP hw hK hc i pins s σ H E I hf st hg;subst hP hw hK;obtain⟨f0,f1,f2,f3,f4,f5⟩:=hf it (by simp);have Wq:=Walks.range (prog:=X.prog) (w:=X.w) (I.ok.hd hc) it lo 1 n;refine Wq.item i s _ _ hg st fun v h' tk hv st' kk=> ?_;obtain⟨t,rfl⟩:=hv;have I1:Inv X pins σ H {s with heap:=h',toks:=tk}:=I.turned (fun b o hb e=>kk b o (by simpa using hb) e) f0 f1 f3 f4 f5;refine⟨_,rfl,go_of (s:={s with heap:=h',toks:=tk}) (n:="range_iterator") st' rfl rfl (by decide) ⟨.int (lo+i),H,I1,⟨t, ?_⟩,⟨rfl,rfl⟩,st',fun b hb=>(hf b hb).1⟩⟩;rw [Int.mul_one]
 done:=by
  intro X hP hw hK hc i pins s σ H E I hf st hg;subst hP hw hK;obtain⟨f0,f1,f2,f3,f4,f5⟩:=hf it (by simp);exact wpAny_pyNext_range_end (I.ok.hd hc) st (by have:n<=i:=hg;lia) fun h' eb=>⟨rfl,I.turned (t':=s.toks) (fun b o hb e=>eb b o hb e) f0 f1 f3 f4 f5⟩
 self:=fun _ _ _ _ _ st h=>wpAny_pyIter_rangeiter st h
end L2
namespace L2
open PySem PySem.Spec PyProof.Rows
section
variable {X:Cx}{tg:Expr}
def r9_ (K:W.Frag) (tl:TE):TI:=fun σ H R=>tl σ H fun x H1=>∃a,x= .ref a/\(∃xs,SqL K H1 a xs)/\R (Itl K a) H1
def s4_ (K:W.Frag) (tl:TE):TI:=fun σ H R=>tl σ H fun x H1=>∃a,x= .ref a/\(∃xs,SqT K H1 a xs)/\R (Itt K a) H1
theorem aQ_ {l:Expr}{tl:TE} (hl:PE X l tl):PI X tg l (r9_ X.K tl):=by
 intro pins s σ H R I h;refine thn (hl pins s σ H _ I h) fun v s1 ⟨x,H1,I1,r1,q1⟩=> ?_;obtain⟨a,e,⟨xs,hq⟩,q⟩:=q1;subst e;cases r1;obtain⟨its,rv,p,hz⟩:=I1.list hq;refine wpAny_pyIter_list p.isList ?_;refine⟨s1.heap.objs.size,[s1.heap.objs.size],_,_,H1,rfl,I1.kept (t':=s1.toks) fun b o e=>A4 _ e,kg_ a _,⟨_,AE _ rfl,rfl,rfl⟩,fun b hb=> ?_,q⟩;have e:b=s1.heap.objs.size:=by simpa using hb
 subst e;exact I1.fpOk (A7 _) (I1.hok.fresh (A7 _))
theorem p3_ {l:Expr}{tl:TE} (hl:PE X l tl):PI X tg l (s4_ X.K tl):=by
 intro pins s σ H R I h;refine thn (hl pins s σ H _ I h) fun v s1 ⟨x,H1,I1,r1,q1⟩=> ?_;obtain⟨a,e,⟨xs,hq⟩,q⟩:=q1;subst e;cases r1;obtain⟨its,rv,p,hz⟩:=I1.tuple hq;refine Ck (show s1.heap.IsTuple a its.toArray from p) ?_;refine⟨s1.heap.objs.size,[s1.heap.objs.size],_,_,H1,rfl,I1.kept (t':=s1.toks) fun b o e=>A4 _ e,js_ a _,⟨_,AE _ rfl,rfl,rfl⟩,fun b hb=> ?_,q⟩;have e:b=s1.heap.objs.size:=by simpa using hb
 subst e;exact I1.fpOk (A7 _) (I1.hok.fresh (A7 _))
theorem iE_ {pins:List (Addr×Obj)}{σ:St}{H:Hp}{s:Shared}{R:It->Hp->Prop}{E:Value->Shared->Prop}{lo hi:Int}{t u v:Tok}{tk:Nat} (I:Inv X pins σ H s) (h1: -(2^62)<=lo) (h2:lo<2^62) (h3: -(2^62)<=hi) (h4:hi<2^62)
  (q:R (Itr lo (hi-lo).toNat) H):wpAny (model X.prog X.w) X.A (pyIter (.ref s.heap.objs.size)) (PIE X pins σ tg R) E {s with heap:=s.heap.push {cls:= .type "range",data:= .fields #[.int lo t, .int hi u, .int 1 v]},toks:=tk}:=by
 refine wpAny_pyIter_range (IsRange.new ..) (small_one h1 h2 h3 h4) ?_;have I1:Inv X pins σ H {s with heap:=s.heap.push {cls:= .type "range",data:= .fields #[.int lo t, .int hi u, .int 1 v]},toks:=tk}:=I.kept fun b o e=>A4 _ e;refine⟨(s.heap.push {cls:= .type "range",data:= .fields #[.int lo t, .int hi u, .int 1 v]}).objs.size,[(s.heap.push {cls:= .type "range",data:= .fields #[.int lo t, .int hi u, .int 1 v]}).objs.size],_,_,H,rfl,
  I1.kept (t':=tk) fun b o e=>A4 _ e,jt_ _ lo (hi-lo).toNat, ?_,fun b hb=> ?_,q⟩
 .have e1:lo+((0:Nat):Int)*1=lo:=by simp
  have e2:(((hi-lo).toNat:Nat):Int)-((0:Nat):Int)=Builtin.Range.rangeSize lo hi 1:=by rw [rangeSize_one];split<;>lia
  show IsRangeIter _ _ (lo+((0:Nat):Int)*1) ((((hi-lo).toNat:Nat):Int)-((0:Nat):Int)) 1;rw [e1,e2];exact AE _ rfl
 .have e:b=(s.heap.push {cls:= .type "range",data:= .fields #[.int lo t, .int hi u, .int 1 v]}).objs.size:=by simpa using hb
  subst e;exact I1.fpOk (A7 _) (I1.hok.fresh (A7 _))
def r8_ (ta:TA):TI:=fun σ H R=>ta σ H fun vs H1=>∃j:Int,vs=[.int j]/\-(2^62)<=j/\j<2^62/\R (Itr 0 j.toNat) H1
def r7_ (ta:TA):TI:=fun σ H R=>ta σ H fun vs H1=>∃i j:Int,vs=[.int i, .int j]/\(-(2^62)<=i/\i<2^62/\-(2^62)<=j/\j<2^62)/\R (Itr i (j-i).toNat) H1
theorem dk_ {a:Expr}{ta:TA}{p pos:Pos} (hg:Gl X "range") (hm:X.mg "range"=none) (ha:PA X [a] ta) (hs:starEach [a] X.env=[(false,eval a X.env)]:=by rfl):PI X tg (.Call (.Name "range" p) [a] [] pos) (r8_ ta):=by
 intro pins s σ H R I h;refine Call_ (cG_ I hg hm boot_range (B' (thn (ha pos pins s σ H _ I h) fun us s1 ⟨vs,H1,I1,r1,q1⟩=> ?_) hs rfl));obtain⟨j,e,q1,q2,q⟩:=q1;subst e;cases r1 with
 |cons r rr=>
  cases rr;obtain⟨t,rfl⟩:=r;exact call_range_1 (iE_ I1 (by lia) (by lia) q1 q2 (by simpa using q))
theorem cy_ {a b:Expr}{ta:TA}{p pos:Pos} (hg:Gl X "range") (hm:X.mg "range"=none) (ha:PA X [a,b] ta) (hs:starEach [a,b] X.env=[(false,eval a X.env),(false,eval b X.env)]:=by rfl) (hs2:starEach [b] X.env=[(false,eval b X.env)]:=by rfl):
  PI X tg (.Call (.Name "range" p) [a,b] [] pos) (r7_ ta):=by
 intro pins s σ H R I h;refine Call_ (cG_ I hg hm boot_range (B' (thn (ha pos pins s σ H _ I h) fun us s1 ⟨vs,H1,I1,r1,q1⟩=> ?_) (by rw [hs,hs2]) (by rw [hs2];rfl)));obtain⟨i,j,e,⟨q1,q2,q3,q4⟩,q⟩:=q1;subst e;cases r1 with
 |cons r rr=>
  cases rr with
  |cons r' rr=>
   cases rr;obtain⟨t,rfl⟩:=r;obtain⟨t',rfl⟩:=r';exact call_range_2 (iE_ I1 q1 q2 q3 q4 q)
def sH_ (wi:TI) (g:TG) (tb:TS):TS:=fun D σ H=>wi σ H fun J H1=>∃Wq:Nat->Nat->St->Hp->Prop,(∃m,Wq 0 m σ H1)/\∀i m σ H,Wq i m σ H->
 (J.stop i H/\D.nx σ H)\/(J.go i H/\∃N:St->Hp->Prop,(∀σ' H',N σ' H'->∃m',m'<m/\Wq (i+1) m' σ' H')/\∀x H',J.yld i H x H'->g x σ H' fun σ2 H2=>tb {D with nx:=N,ct:=N,bk:=D.nx} σ2 H2)
def gL_ (fp:List Addr) (h:Heap):List (Addr×Obj):=fp.filterMap fun b=>(h.get? b).map fun o=>(b,o)
theorem cL_ {fp:List Addr}{h:Heap}{b:Addr}{o:Obj} (hb:b∈fp) (e:h.get? b=some o):(b,o)∈gL_ fp h:=DB.mpr ⟨b,hb,by rw [e];rfl⟩
theorem k2_ {fp:List Addr}{h:Heap}{p:Addr×Obj} (hp:p∈gL_ fp h):p.1∈fp/\h.get? p.1=some p.2:=by
 obtain⟨b,hb,e⟩:=DB.mp hp;cases q:h.get? b with
 |none=>rw [q] at e;cases e
 |some o=>
  rw [q] at e;have e':(b,o)=p:=Ac e;subst e';exact⟨hb,q⟩
theorem Inv.pinned {pins:List (Addr×Obj)}{σ:St}{H:Hp}{s:Shared}{fp:List Addr} (I:Inv X pins σ H s) (hf:∀b∈fp,hD_ X pins H b) (ho:∀b∈fp,∃o,s.heap.get? b=some o/\∀v,o.data≠ .cell v):Inv X (pins++gL_ fp s.heap) σ H s:=
 I.pins_of fun p hp=>(Bx.mp hp).elim (fun z=>I.pin p (B3 _ z)) fun z=>by
  obtain⟨hb,e⟩:=k2_ z;obtain⟨f0,f1,f2,_⟩:=hf p.1 hb;obtain⟨o,e',d⟩:=ho p.1 hb;rw [e] at e';cases e';exact⟨e,f0,f1,f2,d⟩
theorem Inv.unpinned {pins pl:List (Addr×Obj)}{σ:St}{H:Hp}{s:Shared} (I:Inv X (pins++pl) σ H s):Inv X pins σ H s:=I.pins_of fun p hp=>I.pin p (B3 _ (List.mem_append_left _ hp))
theorem aJ_ {iter:Expr}{body:List Stmt}{wi:TI}{g:TG}{tb:TS}{pos:Pos} (hp:PassesOwn (model X.prog X.w) X.A X.env X.xe) (hc:X.calm=true) (hi:PI X tg iter wi) (hg:PG X tg g) (hb:PSs X body tb)
  (hs:∀x,foldedSetIterable iter X.env x=pure x:=by intro _;rfl):PS X (.For tg iter body [] pos) (sH_ wi g tb):=by
 intro pins s σ H D I h;refine wpAny_For (thn (hi pins s σ H _ I h) fun v s1 h1=>thn h1 fun itv s2 h2=> ?_) hs;obtain⟨it,fp,tn,J,H2,e,I2,T,st2,f2,Wq,⟨m0,w0⟩,turn⟩:=h2;subst e;have stat:∀{H':Hp},(∀b∈fp,H' b=none)->∀b∈fp,hD_ X pins H' b:=fun hn b hb=>⟨hn b hb,(f2 b hb).2⟩;refine codeAny_forLoop_any (fun n s'=>∃i σ' H',Inv X pins σ' H' s'/\tn i s'.heap/\(∀b∈fp,H' b=none)/\Wq i n σ' H') ?_ m0 ⟨0,σ,H2,I2,st2,fun b hb=>(f2 b hb).1,w0⟩;rintro n s3 ⟨i,σ3,H3,I3,st3,fr3,w3⟩;rcases turn i n σ3 H3 w3 with⟨stop,qn⟩|⟨go,N,hN,step⟩
 .refine CJ hp (thn (T.done X rfl rfl rfl hc i pins s3 σ3 H3 X.xe I3 (stat fr3) st3 stop) fun r s4 ⟨hr,I4⟩=> ?_);subst hr;exact Ch ⟨σ3,H3,I4,qn⟩
 .refine CJ hp (thn (T.item X rfl rfl rfl hc i pins s3 σ3 H3 X.xe I3 (stat fr3) st3 go) fun r s4 ⟨u,hr,h4⟩=> ?_);subst hr;refine CJ hp (thn h4 fun _ s5 ⟨x,H5,I5,r5,y5,st5,fr5⟩=> ?_);have I5':=I5.pinned (stat fr5) (T.obj _ _ st5);refine CJ hp (thn (hg _ s5 σ3 H5 x u _ I5' r5 (step x H5 y5)) fun _ s6 ⟨σ6,H6,I6,q6⟩=> ?_);refine CJ hp (thn (hb _ s6 σ6 H6 _ I6 q6) fun f s7 q7=> ?_);have again:∀{σ7:St}{H7:Hp},Inv X (pins++gL_ fp s5.heap) σ7 H7 s7->N σ7 H7->∃m,m<n/\∃i σ' H',Inv X pins σ' H' s7/\tn i s7.heap/\(∀b∈fp,H' b=none)/\Wq i m σ' H':=fun{σ7 H7} I7 n7=>by
   obtain⟨m',hm,w7⟩:=hN σ7 H7 n7;refine⟨m',hm,i+1,σ7,H7,I7.unpinned,T.keep _ _ _ st5 fun b hb o e=>(I7.pin (b,o) (B3 _ (B3 _ (cL_ hb e)))).1,fun b hb=> ?_,w7⟩;obtain⟨o,e,d⟩:=T.obj _ _ st5 b hb;exact(I7.pin (b,o) (B3 _ (B3 _ (cL_ hb e)))).2.1
  cases f with
  |next=>obtain⟨σ7,H7,I7,n7⟩:=q7;exact again I7 n7
  |cont=>obtain⟨σ7,H7,I7,n7⟩:=q7;exact again I7 n7
  |brk=>obtain⟨σ7,H7,I7,q7⟩:=q7;exact⟨σ7,H7,I7.unpinned,q7⟩
  |ret v=>obtain⟨x7,σ7,H7,I7,r7,q7⟩:=q7;exact⟨x7,σ7,H7,I7.unpinned,r7,q7⟩
end
theorem aL_ {K:W.Frag}{a:Addr}{xs:List V}{g:TG}{tb:TS}{D:Ends}{σ:St}{H:Hp} (Pv:Nat->St->Hp->Prop) (h0:Pv 0 σ H) (hl:∀i σ H,i<=xs.length->Pv i σ H->SqL K H a xs)
  (hs:∀i x σ H,xs[i]? =some x->Pv i σ H->g x σ H fun σ2 H2=>tb {D with nx:=Pv (i+1),ct:=Pv (i+1),bk:=D.nx} σ2 H2) (hd:∀σ H,Pv xs.length σ H->D.nx σ H):
  ∃Wq:Nat->Nat->St->Hp->Prop,(∃m,Wq 0 m σ H)/\∀i m σ H,Wq i m σ H->
   ((Itl K a).stop i H/\D.nx σ H)\/((Itl K a).go i H/\∃N:St->Hp->Prop,(∀σ' H',N σ' H'->∃m',m'<m/\Wq (i+1) m' σ' H')/\∀x H',(Itl K a).yld i H x H'->g x σ H' fun σ2 H2=>tb {D with nx:=N,ct:=N,bk:=D.nx} σ2 H2):=by
 refine⟨fun i m σ H=>m=xs.length-i/\i<=xs.length/\Pv i σ H,⟨xs.length,by simp,AK _,h0⟩, ?_⟩;rintro i m σ H ⟨rfl,hi,p⟩;have q:=hl i σ H hi p;by_cases hlt:i<xs.length
 .refine .inr ⟨⟨xs,xs[i],q,by simp [hlt]⟩,Pv (i+1),fun σ' H' p'=>⟨xs.length-(i+1),by lia,rfl,hlt,p'⟩,fun x H' y=> ?_⟩;obtain⟨e,y⟩:=y;subst e;exact hs i x σ _ (y xs q) p
 .have e:i=xs.length:=by lia
  subst e;exact .inl ⟨⟨xs,q,A7 _⟩,hd σ H p⟩
theorem o3_ {K:W.Frag}{a:Addr}{xs:List V}{g:TG}{tb:TS}{D:Ends}{σ:St}{H:Hp} (Pv:Nat->St->Hp->Prop) (h0:Pv 0 σ H) (hl:∀i σ H,i<=xs.length->Pv i σ H->SqT K H a xs)
  (hs:∀i x σ H,xs[i]? =some x->Pv i σ H->g x σ H fun σ2 H2=>tb {D with nx:=Pv (i+1),ct:=Pv (i+1),bk:=D.nx} σ2 H2) (hd:∀σ H,Pv xs.length σ H->D.nx σ H):
  ∃Wq:Nat->Nat->St->Hp->Prop,(∃m,Wq 0 m σ H)/\∀i m σ H,Wq i m σ H->
   ((Itt K a).stop i H/\D.nx σ H)\/((Itt K a).go i H/\∃N:St->Hp->Prop,(∀σ' H',N σ' H'->∃m',m'<m/\Wq (i+1) m' σ' H')/\∀x H',(Itt K a).yld i H x H'->g x σ H' fun σ2 H2=>tb {D with nx:=N,ct:=N,bk:=D.nx} σ2 H2):=by
 refine⟨fun i m σ H=>m=xs.length-i/\i<=xs.length/\Pv i σ H,⟨xs.length,by simp,AK _,h0⟩, ?_⟩;rintro i m σ H ⟨rfl,hi,p⟩;have q:=hl i σ H hi p;by_cases hlt:i<xs.length
 .refine .inr ⟨⟨xs,xs[i],q,by simp [hlt]⟩,Pv (i+1),fun σ' H' p'=>⟨xs.length-(i+1),by lia,rfl,hlt,p'⟩,fun x H' y=> ?_⟩;obtain⟨e,y⟩:=y;subst e;exact hs i x σ _ (y xs q) p
 .have e:i=xs.length:=by lia
  subst e;exact .inl ⟨⟨xs,q,A7 _⟩,hd σ H p⟩
theorem bt_ {lo:Int}{n:Nat}{g:TG}{tb:TS}{D:Ends}{σ:St}{H:Hp} (Pv:Nat->St->Hp->Prop) (h0:Pv 0 σ H)
  (hs:∀i σ H,i<n->Pv i σ H->g (.int (lo+i)) σ H fun σ2 H2=>tb {D with nx:=Pv (i+1),ct:=Pv (i+1),bk:=D.nx} σ2 H2) (hd:∀σ H,Pv n σ H->D.nx σ H):
  ∃Wq:Nat->Nat->St->Hp->Prop,(∃m,Wq 0 m σ H)/\∀i m σ H,Wq i m σ H->
   ((Itr lo n).stop i H/\D.nx σ H)\/((Itr lo n).go i H/\∃N:St->Hp->Prop,(∀σ' H',N σ' H'->∃m',m'<m/\Wq (i+1) m' σ' H')/\∀x H',(Itr lo n).yld i H x H'->g x σ H' fun σ2 H2=>tb {D with nx:=N,ct:=N,bk:=D.nx} σ2 H2):=by
 refine⟨fun i m σ H=>m=n-i/\i<=n/\Pv i σ H,⟨n,by simp,AK _,h0⟩, ?_⟩;rintro i m σ H ⟨rfl,hi,p⟩;by_cases hlt:i<n
 .refine .inr ⟨hlt,Pv (i+1),fun σ' H' p'=>⟨n-(i+1),by lia,rfl,hlt,p'⟩,fun x H' y=> ?_⟩;obtain⟨e,y⟩:=y;subst e y;exact hs i σ _ hlt p
 .have e:i=n:=by lia
  subst e;exact .inl ⟨A7 _,hd σ H p⟩
theorem ir_ {c:TT}{tb:TS}{D:Ends}{σ:St}{H:Hp} (Pv:St->Hp->Prop) (μ:St->Hp->Nat) (h0:Pv σ H)
  (hs:∀σ H,Pv σ H->c σ H fun b H1=>if b=true then tb {D with nx:=fun σ' H'=>Pv σ' H'/\μ σ' H'<μ σ H,ct:=fun σ' H'=>Pv σ' H'/\μ σ' H'<μ σ H,bk:=D.nx} σ H1 else D.nx σ H1)
  (mono:∀σ H Q Q',(∀b H1,Q b H1->Q' b H1)->c σ H Q->c σ H Q'):nn_ c tb D σ H:=by
 refine⟨fun m σ H=>m=μ σ H/\Pv σ H,⟨_,rfl,h0⟩, ?_⟩;rintro m σ H ⟨rfl,p⟩;refine mono σ H _ _ (fun b H1 q=> ?_) (hs σ H p);cases b with
 |true=>exact⟨_,fun σ' H' ⟨p',l⟩=>⟨_,l,rfl,p'⟩,q⟩
 |false=>exact q
end L2
namespace L2
open PySem PySem.Spec PyProof.Rows
abbrev R2:=V->V->Hp->VK->Prop
def OpR (X:Cx) (f:Value->Value->Sem Value) (r:R2):Prop:=
 ∀(pins:List (Addr×Obj)) (s:Shared) (σ:St) (H:Hp) (x y:V) (v u:Value) (Q:VK),Inv X pins σ H s->aV_ x v->aV_ y u->r x y H Q->
  wpAny (model X.prog X.w) X.A (f v u) (EP X pins σ Q) X.xe s
def UnR (X:Cx) (f:Value->Sem Value) (r:V->Hp->VK->Prop):Prop:=
 ∀(pins:List (Addr×Obj)) (s:Shared) (σ:St) (H:Hp) (x:V) (v:Value) (Q:VK),Inv X pins σ H s->aV_ x v->r x H Q->
  wpAny (model X.prog X.w) X.A (f v) (EP X pins σ Q) X.xe s
def b8_ (X:Cx) (f:Value) (r:List V->Hp->VK->Prop):Prop:=
 ∀(pins:List (Addr×Obj)) (s:Shared) (σ:St) (H:Hp) (xs:List V) (us:List Value) (Q:VK),Inv X pins σ H s->aP_ xs us->r xs H Q->
  wpAny (model X.prog X.w) X.A (call f us) (EP X pins σ Q) X.xe s
def s9_ (X:Cx) (r:V->Hp->(Bool->Hp->Prop)->Prop):Prop:=
 ∀(pins:List (Addr×Obj)) (s:Shared) (σ:St) (H:Hp) (x:V) (v:Value) (Q:Bool->Hp->Prop),Inv X pins σ H s->aV_ x v->r x H Q->
  wpAny (model X.prog X.w) X.A (truthy v) (TP X pins σ Q) X.xe s
def tOp (r:R2) (ta tb:TE):TE:=fun σ H Q=>ta σ H fun x H1=>tb σ H1 fun y H2=>r x y H2 Q
def tUn (r:V->Hp->VK->Prop) (ta:TE):TE:=fun σ H Q=>ta σ H fun x H1=>r x H1 Q
def rI (C:Int->Int->Prop) (g:Int->Int->V):R2:=fun x y H Q=>∃i j,x= .int i/\y= .int j/\C i j/\Q (g i j) H
def rI0 (g:Int->Int->V):R2:=fun x y H Q=>∃i j,x= .int i/\y= .int j/\Q (g i j) H
def rU (g:Int->V):V->Hp->VK->Prop:=fun x H Q=>∃i,x= .int i/\Q (g i) H
section
variable {X:Cx}{a b c:Expr}{ta tb tc:TE}{pos:Pos}
theorem sf_ (ha:PE X a ta) (hb:PE X b tb) {pins:List (Addr×Obj)}{s:Shared}{σ:St}{H:Hp}{R:V->V->Hp->Prop} (I:Inv X pins σ H s)
  (h:ta σ H fun x H1=>tb σ H1 fun y H2=>R x y H2) {Q:Value->Shared->Prop}{f:Value->Value->Sem Value}
  (hf:∀v u s2 x y H2,Inv X pins σ H2 s2->aV_ x v->aV_ y u->R x y H2->wpAny (model X.prog X.w) X.A (f v u) Q X.xe s2):
  wpAny (model X.prog X.w) X.A (eval a X.env) (fun v s₁=>wpAny (model X.prog X.w) X.A (eval b X.env) (fun u s₂=>wpAny (model X.prog X.w) X.A (f v u) Q X.xe s₂) X.xe s₁) X.xe s:=by
 refine thn (ha pins s σ H _ I h) fun v s1 ⟨x,H1,I1,r1,q1⟩=> ?_;refine thn (hb pins s1 σ H1 _ I1 q1) fun u s2 ⟨y,H2,I2,r2,q2⟩=> ?_;exact hf v u s2 x y H2 I2 r1 r2 q2
theorem aj_ {op:Operator}{r:R2} (ho:OpR X (binaryOp op) r) (ha:PE X a ta) (hb:PE X b tb):PE X (.BinOp a op b pos) (tOp r ta tb):=by
 intro pins s σ H Q I h;exact wpAny_BinOp (sf_ ha hb I h fun v u s2 x y H2 I2 rx ry q=>ho pins s2 σ H2 x y v u Q I2 rx ry q)
theorem kR_ {op:UnaryOp}{r:V->Hp->VK->Prop} (ho:UnR X (unaryOp op) r) (ha:PE X a ta):PE X (.UnaryOp op a pos) (tUn r ta):=by
 intro pins s σ H Q I h;exact UnaryOp_ (thn (ha pins s σ H _ I h) fun v s1 ⟨x,H1,I1,r1,q1⟩=>ho pins s1 σ H1 x v Q I1 r1 q1)
theorem opI {f:Value->Value->Sem Value}{C:Int->Int->Prop}{g:Int->Int->Int}
  (rule:∀(i j:Int) (t u:Tok) (s:Shared) (Q:Value->Shared->Prop) (E:Value->Shared->Prop),C i j->Q (.int (g i j) s.toks) {s with toks:=s.toks+1}->wpAny (model X.prog X.w) X.A (f (.int i t) (.int j u)) Q E s):
  OpR X f (rI C fun i j=> .int (g i j)):=by
 intro pins s σ H x y v u Q I rx ry h;obtain⟨i,j,rfl,rfl,hc,q⟩:=h;obtain⟨t,rfl⟩:=rx;obtain⟨t',rfl⟩:=ry;exact rule i j t t' s _ _ hc ⟨.int (g i j),H,I.tok _,⟨_,rfl⟩,q⟩
theorem sq_ {f:Value->Value->Sem Value}{g:Int->Int->Int}
  (rule:∀(i j:Int) (t u:Tok) (s:Shared) (Q:Value->Shared->Prop) (E:Value->Shared->Prop),Q (.int (g i j) s.toks) {s with toks:=s.toks+1}->wpAny (model X.prog X.w) X.A (f (.int i t) (.int j u)) Q E s):
  OpR X f (rI0 fun i j=> .int (g i j)):=by
 intro pins s σ H x y v u Q I rx ry h;obtain⟨i,j,rfl,rfl,q⟩:=h;obtain⟨t,rfl⟩:=rx;obtain⟨t',rfl⟩:=ry;exact rule i j t t' s _ _ ⟨.int (g i j),H,I.tok _,⟨_,rfl⟩,q⟩
theorem q9_ {f:Value->Value->Sem Value}{g:Int->Int->Bool}
  (rule:∀(i j:Int) (t u:Tok) (s:Shared) (Q:Value->Shared->Prop) (E:Value->Shared->Prop),Q (.bool (g i j)) s->wpAny (model X.prog X.w) X.A (f (.int i t) (.int j u)) Q E s):
  OpR X f (rI0 fun i j=> .bl (g i j)):=by
 intro pins s σ H x y v u Q I rx ry h;obtain⟨i,j,rfl,rfl,q⟩:=h;obtain⟨t,rfl⟩:=rx;obtain⟨t',rfl⟩:=ry;exact rule i j t t' s _ _ ⟨.bl (g i j),H,I,rfl,q⟩
def tc_ (i j:Int):Prop:=0<j/\j<1073741824
def tb_ (i j:Int):Prop:=0<=j/\j<=1000000/\i.natAbs<2^64
def rc_ (i j:Int):Prop:=(-(2^64)<i/\i<2^64)\/(-(2^64)<j/\j<2^64)
theorem rc_.ok {i j:Int} (h:rc_ i j):IntMulOk i j:=by
 rcases h with⟨h1,h2⟩|⟨h1,h2⟩
 .exact .of_left (intBits_le_64 h1 h2)
 .exact .of_right (intBits_le_64 h1 h2)
theorem aF_:OpR X (binaryOp .Add) (rI0 fun i j=> .int (i+j)):=sq_ fun _ _ _ _ _ _ _ q=>add_int q
theorem aD_:OpR X (binaryOp .Sub) (rI0 fun i j=> .int (i-j)):=sq_ fun _ _ _ _ _ _ _ q=>sub_int q
theorem bl_:OpR X (binaryOp .Mult) (rI rc_ fun i j=> .int (i*j)):=opI fun _ _ _ _ _ _ _ hc q=>mul_int q hc.ok
theorem k0_:OpR X (binaryOp .FloorDiv) (rI tc_ fun i j=> .int (i/j)):=opI fun i j _ _ _ _ _ hc q=>by
 have h1:(0:Int)<j:=hc.1;have h2:j<1073741824:=hc.2;exact floordiv_int (by lia) (by rw [Int.fdiv_eq_ediv_of_nonneg i (by lia)];exact q) (.inl (PyProof.noPylong_small (by lia)))
theorem gN_:OpR X (binaryOp .Mod) (rI (fun _ j=>0<j) fun i j=> .int (i%j)):=opI fun i j _ _ _ _ _ hc q=>by
 have h1:(0:Int)<j:=hc;exact mod_int' (by lia) (by rw [Int.fmod_eq_emod_of_nonneg i (by lia)];exact q)
theorem dU_:OpR X (binaryOp .Pow) (rI tb_ fun i j=> .int (i^j.toNat)):=opI fun _ _ _ _ _ _ _ hc q=>pow_int_small hc.1 hc.2.1 hc.2.2 q
theorem unI {f:Value->Sem Value}{g:Int->Int}
  (rule:∀(i:Int) (t:Tok) (s:Shared) (Q:Value->Shared->Prop) (E:Value->Shared->Prop),Q (.int (g i) s.toks) {s with toks:=s.toks+1}->wpAny (model X.prog X.w) X.A (f (.int i t)) Q E s):
  UnR X f (rU fun i=> .int (g i)):=by
 intro pins s σ H x v Q I rx h;obtain⟨i,rfl,q⟩:=h;obtain⟨t,rfl⟩:=rx;exact rule i t s _ _ ⟨.int (g i),H,I.tok _,⟨_,rfl⟩,q⟩
theorem gA_:UnR X (unaryOp .USub) (rU fun i=> .int (-i)):=unI fun _ _ _ _ _ q=>neg_int q
end
def sp_:V->V->Bool
 | .non, .non=>true| .non, .int _=>true| .int _, .non=>true| .non, .bl _=>true| .bl _, .non=>true| .non, .str _=>true| .str _, .non=>true
 | .int _, .int _=>true| .bl _, .bl _=>true| .str _, .str _=>true| .byt _, .byt _=>true
 | .int _, .str _=>true| .str _, .int _=>true| .bl _, .str _=>true| .str _, .bl _=>true
 |_,_=>false
def rEq:R2:=fun x y H Q=>sp_ x y=true/\Q (.bl (decide (x=y))) H
def rNe:R2:=fun x y H Q=>sp_ x y=true/\Q (.bl (!decide (x=y))) H
theorem lL_ {i j:Int}:decide (V.int i=V.int j)=(i==j):=by
 rw [Bool.eq_iff_iff];simp
theorem nS_ {i j:Bool}:decide (V.bl i=V.bl j)=(i==j):=by
 rw [Bool.eq_iff_iff];simp
theorem lK_ {i j:Str}:decide (V.str i=V.str j)=(i==j):=by
 rw [Bool.eq_iff_iff];simp
theorem lM_ {i j:Array UInt8}:decide (V.byt i=V.byt j)=(i.toList==j.toList):=by
 rw [Bool.eq_iff_iff];cases i;cases j;simp
section
variable {X:Cx}{a b c:Expr}{ta tb tc:TE}{pos:Pos}
theorem aM_ {pins:List (Addr×Obj)}{σ:St}{H:Hp}{s:Shared}{Q:VK}{k k':Bool} (I:Inv X pins σ H s) (q:Q (.bl k) H) (e:k=k'):EP X pins σ Q (.bool k') s:=by
 subst e;exact⟨.bl k,H,I,rfl,q⟩
theorem cf_:OpR X (compareOp .Eq) rEq:=by
 intro pins s σ H x y v u Q I rx ry h;obtain⟨hs,q⟩:=h;cases x with
 |non=>
  cases rx;cases y with
  |non=>cases ry;exact PySem.EqNone.eq_none_none (aM_ I q (by simp))
  |bl j=>cases ry;exact PySem.EqNone.eq_none_bool (aM_ I q (by simp))
  |int j=>obtain⟨t',rfl⟩:=ry;exact PySem.EqNone.eq_none_int (aM_ I q (by simp))
  |str j=>obtain⟨t',rfl⟩:=ry;exact PySem.EqNone.eq_none_str (aM_ I q (by simp))
  |_=>exact absurd (show false=true from hs) AM
 |bl i=>
  cases rx;cases y with
  |non=>cases ry;exact PySem.EqNone.eq_bool_none (aM_ I q (by simp))
  |bl j=>cases ry;exact eq_bool (aM_ I q nS_)
  |str j=>obtain⟨t',rfl⟩:=ry;exact PySem.EqMixed.eq_bool_str (aM_ I q (by simp))
  |_=>exact absurd (show false=true from hs) AM
 |int i=>
  obtain⟨t,rfl⟩:=rx;cases y with
  |non=>cases ry;exact PySem.EqNone.eq_int_none (aM_ I q (by simp))
  |int j=>obtain⟨t',rfl⟩:=ry;exact eq_int (aM_ I q lL_)
  |str j=>obtain⟨t',rfl⟩:=ry;exact PySem.EqMixed.eq_int_str (aM_ I q (by simp))
  |_=>exact absurd (show false=true from hs) AM
 |str i=>
  obtain⟨t,rfl⟩:=rx;cases y with
  |non=>cases ry;exact PySem.EqNone.eq_str_none (aM_ I q (by simp))
  |bl j=>cases ry;exact PySem.EqMixed.eq_str_bool (aM_ I q (by simp))
  |int j=>obtain⟨t',rfl⟩:=ry;exact PySem.EqMixed.eq_str_int (aM_ I q (by simp))
  |str j=>obtain⟨t',rfl⟩:=ry;exact eq_str (aM_ I q lK_)
  |_=>exact absurd (show false=true from hs) AM
 |byt i=>
  obtain⟨t,rfl⟩:=rx;cases y with
  |byt j=>obtain⟨t',rfl⟩:=ry;exact W.eq_bytes (aM_ I q lM_)
  |_=>exact absurd (show false=true from hs) AM
 |_=>cases y<;>exact absurd (show false=true from hs) AM
theorem qb_:OpR X (compareOp .NotEq) rNe:=by
 intro pins s σ H x y v u Q I rx ry h;obtain⟨hs,q⟩:=h;cases x with
 |non=>
  cases rx;cases y with
  |non=>cases ry;exact PySem.EqNone.ne_none_none (aM_ I q (by simp))
  |bl j=>cases ry;exact PySem.EqNone.ne_none_bool (aM_ I q (by simp))
  |int j=>obtain⟨t',rfl⟩:=ry;exact PySem.EqNone.ne_none_int (aM_ I q (by simp))
  |str j=>obtain⟨t',rfl⟩:=ry;exact PySem.EqNone.ne_none_str (aM_ I q (by simp))
  |_=>exact absurd (show false=true from hs) AM
 |bl i=>
  cases rx;cases y with
  |non=>cases ry;exact PySem.EqNone.ne_bool_none (aM_ I q (by simp))
  |bl j=>cases ry;exact ne_bool (aM_ I q (Be not nS_))
  |str j=>obtain⟨t',rfl⟩:=ry;exact PySem.EqMixed.ne_bool_str (aM_ I q (by simp))
  |_=>exact absurd (show false=true from hs) AM
 |int i=>
  obtain⟨t,rfl⟩:=rx;cases y with
  |non=>cases ry;exact PySem.EqNone.ne_int_none (aM_ I q (by simp))
  |int j=>obtain⟨t',rfl⟩:=ry;exact ne_int (aM_ I q (Be not lL_))
  |str j=>obtain⟨t',rfl⟩:=ry;exact PySem.EqMixed.ne_int_str (aM_ I q (by simp))
  |_=>exact absurd (show false=true from hs) AM
 |str i=>
  obtain⟨t,rfl⟩:=rx;cases y with
  |non=>cases ry;exact PySem.EqNone.ne_str_none (aM_ I q (by simp))
  |bl j=>cases ry;exact PySem.EqMixed.ne_str_bool (aM_ I q (by simp))
  |int j=>obtain⟨t',rfl⟩:=ry;exact PySem.EqMixed.ne_str_int (aM_ I q (by simp))
  |str j=>obtain⟨t',rfl⟩:=ry;exact ne_str (aM_ I q (Be not lK_))
  |_=>exact absurd (show false=true from hs) AM
 |byt i=>
  obtain⟨t,rfl⟩:=rx;cases y with
  |byt j=>obtain⟨t',rfl⟩:=ry;exact W.ne_bytes (aM_ I q (Be not lM_))
  |_=>exact absurd (show false=true from hs) AM
 |_=>cases y<;>exact absurd (show false=true from hs) AM
theorem hV_:OpR X (compareOp .Lt) (rI0 fun i j=> .bl (decide (i<j))):=q9_ fun _ _ _ _ _ _ _ q=>lt_int q
theorem mH_:OpR X (compareOp .LtE) (rI0 fun i j=> .bl (decide (i<=j))):=q9_ fun _ _ _ _ _ _ _ q=>le_int q
theorem jG_:OpR X (compareOp .Gt) (rI0 fun i j=> .bl (decide (j<i))):=q9_ fun _ _ _ _ _ _ _ q=>gt_int q
theorem kZ_:OpR X (compareOp .GtE) (rI0 fun i j=> .bl (decide (j<=i))):=q9_ fun _ _ _ _ _ _ _ q=>ge_int q
theorem az_ (b:Expr) {op:CmpOp} (h:op≠ .In:=by decide) (h2:op≠ .NotIn:=by decide):behindInMarks op b=false:=by
 have e1:(op==CmpOp.In)=false:=by cases op<;>first|rfl|exact absurd rfl h
 have e2:(op==CmpOp.NotIn)=false:=by cases op<;>first|rfl|exact absurd rfl h2
 cases b<;>simp [behindInMarks,e1,e2]
theorem hU_ {op:CmpOp}{r:R2} (ho:OpR X (compareOp op) r) (ha:PE X a ta) (hb:PE X b tb) (hm:behindInMarks op b=false):PE X (.Compare a [op] [b] pos) (tOp r ta tb):=by
 intro pins s σ H Q I h;exact wpAny_Compare1 (sf_ ha hb I h fun v u s2 x y H2 I2 rx ry q=>ho pins s2 σ H2 x y v u Q I2 rx ry q) hm
def rj_ (t:TE):TT:=fun σ H Q=>t σ H fun x H'=>∃k,x= .bl k/\Q k H'
theorem av_ {op:CmpOp}{r:R2} (ho:OpR X (compareOp op) r) (ha:PE X a ta) (hb:PE X b tb) (hm:behindInMarks op b=false):PT X (.Compare a [op] [b] pos) (rj_ (tOp r ta tb)):=by
 intro pins s σ H Q I h;refine wpAny_isTrue_Compare1 (thn (ha pins s σ H _ I h) fun v s1 ⟨x,H1,I1,r1,q1⟩=>thn (hb pins s1 σ H1 _ I1 q1) fun u s2 ⟨y,H2,I2,r2,q2⟩=>
  thn (ho pins s2 σ H2 x y v u _ I2 r1 r2 q2) fun c s3 ⟨z,H3,I3,r3,k,e,q3⟩=> ?_) hm
 subst e;cases r3;exact Bc ⟨H3,I3,q3⟩
def su_ (K:W.Frag) (x:V) (H:Hp) (k:Bool):Prop:=
 match x with
 | .non=>k=false
 | .bl b=>k=b
 | .int i=>k=(i !=0)
 | .str y=>y.length<=sizeLine/\k=((y.length:Int) !=0)
 | .byt y=>y.size<=sizeLine/\k=((y.size:Int) !=0)
 | .ref p=>(∃xs,SqL K H p xs/\k= !xs.isEmpty)\/(∃xs,SqT K H p xs/\k= !xs.isEmpty)\/∃kvs,H p=some (.dK kvs)/\k= !kvs.isEmpty
 |_=>False
theorem jR_ {κ:Type}{kvs:List (κ×V)}{vs:List (κ×Value)} (r:KV kvs vs):(!vs.isEmpty)= !kvs.isEmpty:=by
 cases r<;>rfl
theorem dR_ {xs:List V}{its:List Value} (r:aP_ xs its):(!its.toArray.isEmpty)= !xs.isEmpty:=by
 cases r<;>simp
theorem eK_:(sizeLine:Nat)<2^63:=by rw [As];decide
theorem py_:s9_ X (fun x H Q=>∃k,su_ X.K x H k/\Q k H):=by
 intro pins s σ H x v Q I rx h;obtain⟨k,e,q⟩:=h;have hl:=eK_;have hs:sizeLine=16777216:=As;cases x with
 |non=>
  cases rx;have e':k=false:=e;subst e';exact truthy_none ⟨H,I,q⟩
 |bl b=>
  cases rx;have e':k=b:=e;subst e';exact Bc ⟨H,I,q⟩
 |int i=>
  obtain⟨t,rfl⟩:=rx;have e':k=(i !=0):=e;subst e';exact PySem.P.truthy_int ⟨H,I,q⟩
 |str y=>
  obtain⟨t,rfl⟩:=rx;obtain⟨hy,e'⟩:y.length<=sizeLine/\k=((y.length:Int) !=0):=e;subst e';exact PySem.P.truthy_str (by lia) ⟨H,I.tok _,q⟩
 |byt y=>
  obtain⟨t,rfl⟩:=rx;obtain⟨hy,e'⟩:y.size<=sizeLine/\k=((y.size:Int) !=0):=e;subst e';exact W.truthy_bytes (by lia) ⟨H,I.tok _,q⟩
 |ref p=>
  cases rx;have e':(∃xs,SqL X.K H p xs/\k= !xs.isEmpty)\/(∃xs,SqT X.K H p xs/\k= !xs.isEmpty)\/∃kvs,H p=some (.dK kvs)/\k= !kvs.isEmpty:=e;rcases e' with⟨xs,hx,e'⟩|⟨xs,hx,e'⟩|⟨kvs,hx,e'⟩
  .subst e';obtain⟨its,r,pl,hz⟩:=I.list hx;have hlen:=r.length;exact wpAny_truthy_list pl.isList (by simp only [AC];lia) ⟨H,I.tok _,by rw [dR_ r];exact q⟩
  .subst e';obtain⟨its,r,pl,hz⟩:=I.tuple hx;have hlen:=r.length;exact truthy_tuple pl (by simp only [AC];lia) ⟨H,I.tok _,by rw [dR_ r];exact q⟩
  .subst e';obtain⟨hz,hS,vs,r,m⟩:kvs.length<=sizeLine/\(p==sysModules)=false/\∃vs,KV kvs vs/\s.heap.DictOf (a3_ X.prog X.w) p vs:=I.hok p _ hx;have hlen:kvs.length=vs.length:=Bs r;exact wpAny_truthy_dict hS m (by lia) ⟨H,I.tok _,by rw [jR_ r];exact q⟩
 |_=>exact(show False from e).elim
theorem iF_ (ha:PE X a ta) (he:∀whole,isTrue a X.env whole=(do let v<-whole;standAt a.pos;holding [v] (truthy v))):
  PT X a (fun σ H Q=>ta σ H fun x H'=>∃k,su_ X.K x H' k/\Q k H'):=by
 intro pins s σ H Q I h;exact isTrue_plain (thn (ha pins s σ H _ I h) fun v s1 ⟨x,H1,I1,r1,q1⟩=>py_ pins s1 σ H1 x v Q I1 r1 q1) (he _)
theorem fD_ {x:V}{us:List Value} (r:aP_ [x] us):∃u,us=[u]/\aV_ x u:=by
 cases r with
 |cons r1 r2=>cases r2;exact⟨_,rfl,r1⟩
theorem kd_ {x y:V}{us:List Value} (r:aP_ [x,y] us):∃u w',us=[u,w']/\aV_ x u/\aV_ y w':=by
 cases r with
 |cons r1 r2=>
  cases r2 with
  |cons r3 r4=>cases r4;exact⟨_,_,rfl,r1,r3⟩
theorem lW_ (hc:X.calm=true):b8_ X (.builtin "min") (fun xs H Q=>∃i j,xs=[.int i, .int j]/\Q (.int (if j<i then j else i)) H):=by
 intro pins s σ H xs us Q I r h;obtain⟨i,j,rfl,q⟩:=h;obtain⟨u,w',rfl,⟨t,rfl⟩,⟨t',rfl⟩⟩:=kd_ r;refine min_two_ints (I.ok.hd hc) fun h' tk k=>⟨_,H,I.kept k, ?_,q⟩;by_cases hj:j<i
 .rw [AA hj,AA hj];exact⟨_,rfl⟩
 .rw [A9 hj,A9 hj];exact⟨_,rfl⟩
end
end L2
namespace L2
open PySem PySem.Spec PyProof.Rows
structure ObjM (h:Heap) (x dx C:Addr) (mA:Str->Option Value):Prop where
 obj:h.get? x=some (W.instObj C dx)
 ns:h.Ns1 dx mA
 ne:dx≠x
theorem lf_ {h:Heap}{dx:Addr}{mA:Str->Option Value} (n:h.Ns1 dx mA):∃od,h.get? dx=some od/\∀name,W.lookIn name od=some (mA name):=by
 obtain⟨o,es,ep,ho,hd,hk,_,hm⟩:=n;refine⟨o,ho,fun name=> ?_⟩;have e:=hm name;unfold nsFind findBy at e;rw [<-Array.find?_toList] at e;unfold W.lookIn;rw [hd];dsimp only;split
 .rename_i y q;rw [q] at e;exact Be some e
 .rename_i q;rw [q] at e;have a:es.toList.any (·.refKey)=false:=by
   rw [List.any_eq_false];intro y hy;obtain⟨z,t,hkey⟩:=hk y (Array.mem_toList_iff.mp hy);simp [DictEntry.refKey,hkey]
  have a':¬es.toList.any (·.refKey)=true:=by rw [a];exact AM
  rw [A9 a'];exact Be some e
theorem ObjM.look {h:Heap}{x dx C:Addr}{mA:Str->Option Value} (I:ObjM h x dx C mA):∃od,W.InstAt h x (W.instObj C dx) C (some od)/\∀name,W.lookIn name od=some (mA name):=
 let ⟨od,ho,hl⟩:=lf_ I.ns
 ⟨od,⟨I.obj,rfl,rfl,ho⟩,hl⟩
section
variable {prog:Program}{w:World}{A:Around}{E:Value->Shared->Prop}{s:Shared}{K:W.Frag}{x dx C f:Addr}{mA:Str->Option Value}{name:Str}{v:Value}
end
theorem in_.some_of {v:V}{o:Option Value} (r:in_ (some v) o):∃u,o=some u/\aV_ v u:=by
 cases o with
 |none=>exact(show False from r).elim
 |some u=>exact⟨u,rfl,r⟩
section
variable {P:Program}{w:World}{H H':Hp}{h h':Heap}{a C dx:Addr}{fs fs':List (Str×V)}
theorem o2_ (hok:HOk P w H h) (e:H a=some (.ins C dx fs)):∃mA,ObjM h a dx C mA/\(∀f,in_ (fs.lookup f) (mA f))/\PySem.Within mA (fs.map (·.1))/\fs.length<=1000/\H dx=some (.own a):=by
 obtain⟨d,z,ne,ob,mA,n,r,q⟩:=(show aH_ P w H h a (.ins C dx fs) from hok a _ e);exact⟨mA,⟨ob,n,ne⟩,r,q,z,d⟩
end
structure Cls (K:W.Frag) (C:Addr):Prop where
 pg:W.plainGet K C Str.empty=true
 hd:W.hasDictIn K C=true
 po:W.plainOver K C=true
 sa:W.findIn K (.ref C) "__setattr__"=some (some (.builtin "object.__setattr__"))
theorem Cls.get {K:W.Frag}{C:Addr} (c:Cls K C) (f:Str):W.plainGet K C f=true:=c.pg
section
variable {X:Cx}{pins:List (Addr×Obj)}{σ:St}{H:Hp}{s:Shared}{a C dx:Addr}{fs:List (Str×V)}{f:Str}{v:V}{A:Around}{E:Value->Shared->Prop}
end
section
variable {X:Cx}{o e value:Expr}{f:Str}{pos pos' tpos:Pos}{ta tv:TE}
end
section
variable {X:Cx}{pins:List (Addr×Obj)}{σ:St}{H:Hp}{s:Shared}{A:Around}{E:Value->Shared->Prop}{Q:Value->Shared->Prop}{c:Value}{b:Bool}
inductive TyOf (K:W.Frag) (H:Hp):V->Value->Prop where
 |non:TyOf K H .non (.type "NoneType")
 |bl (x:Bool):TyOf K H (.bl x) (.type "bool")
 |int (i:Int):TyOf K H (.int i) (.type "int")
 |str (x:Str):TyOf K H (.str x) (.type "str")
 |flt (x:UInt64):TyOf K H (.flt x) (.type "float")
 |lst {a:Addr}{xs:List V} (e:H a=some (.lst xs)):TyOf K H (.ref a) (.type "list")
 |frz {a:Addr}{o:Obj}{xs:List V} (e:H a=some (.frz o (.lst xs))):TyOf K H (.ref a) (.type "list")
 |tup {a:Addr}{xs:List V} (e:H a=some (.tup xs)):TyOf K H (.ref a) (.type "tuple")
 |dK {a:Addr}{kvs:List (Key×V)} (e:H a=some (.dK kvs)):TyOf K H (.ref a) (.type "dict")
 |dT {a:Addr}{kvs:List (List Key×V)} (e:H a=some (.dT kvs)):TyOf K H (.ref a) (.type "dict")
 |ins {a C dx:Addr}{fs:List (Str×V)} (e:H a=some (.ins C dx fs)) (cl:Cls K C) (ha:W.findIn K (.ref C) "__class__"=some (some (.builtin "object.__class__")))
   (hn:W.specialIn K (.builtin "object.__class__") "__get__"=some (some (.builtin "getset_descriptor.__get__"))) (htk:W.takesIn K (.builtin "object.__class__")=some true)
   (hm:W.mroIn K C (.type "object")=some true):TyOf K H (.ref a) (.ref C)
theorem lq_ {x:V}{u t:Value} (I:Inv X pins σ H s) (rx:aV_ x u) (ty:TyOf X.K H x t) (e:W.kitOne X.K t c=some b) (h:∀tk,Q (.bool b) {s with toks:=tk}):
  wpAny (model X.prog X.w) A (call (.builtin "isinstance") [u,c]) Q E s:=by
 cases ty with
 |non=>cases (show u=Value.none from rx);exact BP W.kitx_none I.kIn True.intro e (fun z=>nomatch z) h
 |bl y=>cases (show u=Value.bool y from rx);exact BP W.kitx_bool I.kIn True.intro e (fun z=>nomatch z) h
 |int i=>obtain⟨t,q⟩:=(show∃t,u=Value.int i t from rx);cases q;exact BP W.kitx_int I.kIn True.intro e (fun z=>nomatch z) h
 |str y=>obtain⟨t,q⟩:=(show∃t,u=Value.str y t from rx);cases q;exact BP W.kitx_str I.kIn True.intro e (fun z=>nomatch z) h
 |flt y=>obtain⟨t,q⟩:=(show∃t,u=Value.float y t from rx);cases q;exact BP W.kitx_float I.kIn True.intro e (fun z=>nomatch z) h
 | @lst a xs ea=>
  cases (show u=Value.ref a from rx);obtain⟨_,_,n,_,h1⟩:=(show aH_ X.prog X.w H s.heap a (.lst xs) from I.hok a _ ea);exact BP W.kitx_list I.kIn ⟨_,h1,rfl⟩ e (fun z=>nomatch z) h
 | @frz a ob xs ea=>
  cases (show u=Value.ref a from rx);obtain⟨_,_,_,n,_,h1⟩:=(show aH_ X.prog X.w H s.heap a (.frz ob (.lst xs)) from I.hok a _ ea);exact BP W.kitx_list I.kIn ⟨_,h1,rfl⟩ e (fun z=>nomatch z) h
 | @tup a xs ea=>
  cases (show u=Value.ref a from rx);obtain⟨_,_,_,p⟩:=(show aH_ X.prog X.w H s.heap a (.tup xs) from I.hok a _ ea);obtain⟨o,h1,h2,_⟩:=p;exact BP W.kitx_tuple I.kIn ⟨o,h1,h2⟩ e (fun z=>nomatch z) h
 | @dK a kvs ea=>
  cases (show u=Value.ref a from rx);obtain⟨_,_,vs,_,p⟩:=(show aH_ X.prog X.w H s.heap a (.dK kvs) from I.hok a _ ea);obtain⟨o,es,ep,h1,h2,_⟩:=p;exact BP W.kitx_dict I.kIn ⟨o,h1,h2.1⟩ e (fun z=>nomatch z) h
 | @dT a kvs ea=>
  cases (show u=Value.ref a from rx);obtain⟨_,_,xs,_,o,es,ep,h1,h2,_⟩:=(show aH_ X.prog X.w H s.heap a (.dT kvs) from I.hok a _ ea);exact BP W.kitx_dict I.kIn ⟨o,h1,h2.1⟩ e (fun z=>nomatch z) h
 | @ins a C dx fs ea cl ha hn htk hm=>
  cases (show u=Value.ref a from rx);obtain⟨mA,O,_⟩:=o2_ I.hok ea;obtain⟨od,J,_⟩:=O.look;exact BP (W.kitx_own (cl.get _) cl.hd ha hn htk hm) I.kIn J e (fun z=>nomatch z) h
end
end L2
namespace L2
open PySem PySem.Spec PyProof.Rows
structure Room (k:Nat) (A:Around):Prop where
 hd:A.handled=none
 dp:A.depth+3*k+5<recursionLimit
 un:A.units+16*k+200<cLine
theorem Room.mono {j k:Nat}{A:Around} (r:Room k A) (h:j<=k):Room j A:=⟨r.hd,by have:=r.dp;lia,by have:=r.un;lia⟩
theorem Room.deeper {k:Nat}{A:Around} (r:Room (k+1) A) (env:Env):Room k (A.deeper env):=
 ⟨r.hd,by have:=r.dp;show A.depth+1+3*k+5<_;lia,by have:=r.un;show A.units+3+16*k+200<_;lia⟩
theorem Room.depth {k:Nat}{A:Around} (r:Room k A):A.depth<recursionLimit:=by have:=r.dp;lia
theorem Room.units {k:Nat}{A:Around} (r:Room k A):A.units+64<cLine:=by have:=r.un;lia
def sn_:TA:=fun _ H Q=>Q [] H
def pJ_ (ta:TE) (tr:TA):TA:=fun σ H Q=>ta σ H fun x H1=>tr σ H1 fun xs H2=>Q (x::xs) H2
section
variable {X:Cx}{e:Expr}{es:List Expr}{te:TE}{t:TA}{pos:Pos}
theorem ab_:PA X [] sn_:=fun _ _ _ _ H Q I h=>Calls.spliced_nil ⟨[],H,I, .nil,h⟩
theorem aa_ (ha:PE X e te) (hr:PA X es t) (hs:starEach (e::es) X.env=(false,eval e X.env)::starEach es X.env:=by rfl):PA X (e::es) (pJ_ te t):=by
 intro pos pins s σ H Q I h;rw [hs];show wpAny _ _ (spliced ((false,eval e X.env)::backTo pos (starEach es X.env))) _ _ s;refine Cm (thn (ha pins s σ H _ I h) fun u s1 ⟨x,H1,I1,r1,q1⟩=> ?_);exact thn (hr pos pins s1 σ H1 _ I1 q1) fun us s2 ⟨xs,H2,I2,r2,q2⟩=>⟨x::xs,H2,I2, .cons r1 r2,q2⟩
def sF_ (t:TA):TE:=fun σ H Q=>t σ H fun xs H1=>xs.length<=sizeLine/\∀p,H1 p=none->Q (.ref p) (upd H1 p (.lst xs))
theorem ew_ (h:PA X es t):PE X (.List es pos) (sF_ t):=by
 intro pins s σ H Q I hq;refine wpAny_List_spliced (thn (h pos pins s σ H _ I hq) fun us s1 ⟨xs,H1,I1,r,z,q⟩=>⟨by rw [<-r.length];exact z, ?_⟩);have hf:H1 s1.heap.objs.size=none:=I1.hok.fresh (A7 _);refine⟨.ref s1.heap.objs.size,upd H1 s1.heap.objs.size (.lst xs),I1.laid (t':=s1.toks) (fun b u e=>A4 _ e) (A7 _) ?_,rfl,q _ hf⟩;exact⟨z,us,0,r,AE _ rfl⟩
end
abbrev Sp:=List V->Hp->VK->XK->Prop
abbrev CXT:=List Env->Hp->Shared->XK->Value->Shared->Prop
structure Env0 (P:Program) (w:World) (K:W.Frag) (mg:Str->Option Value) (base:Heap) (A:Around) (outer:List Env) (s:Shared) (H:Hp):Prop where
 frames:A.frames=some outer
 mod:Mod K mg base
 bs:∀b o,base.get? b=some o->s.heap.get? b=some o/\H b=none
 bsz:base.objs.size<=s.heap.objs.size
 funs:s.heap.FunFrames base outer
 frf:∀b∈frs outer,H b=none
 hok:HOk P w H s.heap
 bare:AllBare s.gens
def CE (outer:List Env) (P:Program) (w:World) (H:Hp) (s:Shared) (Q:VK) (u:Value) (s':Shared):Prop:=
 ∃v H',s'.os=s.os/\AllBare s'.gens/\Un (frs outer) [] H H' s.heap s'.heap/\HOk P w H' s'.heap/\aV_ v u/\Q v H'
def CR (CX:CXT) (outer:List Env) (P:Program) (w:World) (H:Hp) (s:Shared) (Q:VK) (E:XK) (r:Result) (s':Shared):Prop:=
 match r with
 | .ok (.ret u)=>CE outer P w H s Q u s'
 | .ok _=>False
 | .error e=>CX outer H s E e s'
structure FnOk (P:Program) (w:World) (K:W.Frag) (mg:Str->Option Value) (base:Heap) (CX:CXT) (k:Nat) (f:Addr) (fd:FuncData) (ps:List Str) (sp:Sp):Prop where
 len:∀vs H Q E,sp vs H Q E->vs.length=ps.length
 run:∀(A:Around) (outer:List Env) (s:Shared) (H:Hp) (args:Args) (us:List Value) (vs:List V) (Q:VK) (E:XK),Room k A->Env0 P w K mg base A outer s H->BindsTo s fd args (ps.zip us)->aP_ vs us->sp vs H Q E->
  codeAny (model P w) A (.call (.ref f) args) (CR CX outer P w H s Q E) s
theorem FnOk.imp {P:Program}{w:World}{K:W.Frag}{mg:Str->Option Value}{base:Heap}{CX:CXT}{k:Nat}{f:Addr}{fd:FuncData}{ps:List Str}{sp sp':Sp} (F:FnOk P w K mg base CX k f fd ps sp)
  (h:∀vs H Q E,sp' vs H Q E->sp vs H Q E):FnOk P w K mg base CX k f fd ps sp':=
 ⟨fun vs H Q E q=>F.len vs H Q E (h _ _ _ _ q),fun A outer s H args us vs Q E hr he hb hv hs=>F.run A outer s H args us vs Q E hr he hb hv (h _ _ _ _ hs)⟩
section
variable {X:Cx}{pins:List (Addr×Obj)}{σ:St}{H:Hp}{s s':Shared}
theorem Inv.env0 (I:Inv X pins σ H s):Env0 X.prog X.w X.K X.mg X.base X.A X.stack s H:=
 ⟨I.ok.frames,I.ok.mod,I.bs,Az I.ok.bsz I.sz,I.stack,I.stkFree,I.hok,I.bare⟩
theorem Inv.after {Q:VK}{u:Value} (I:Inv X pins σ H s) (h:CE X.stack X.prog X.w H s Q u s'):EP X pins σ Q u s':=by
 obtain⟨v,H',os,bare,un,hok,r,q⟩:=h;obtain⟨hh,g,d,t,os'⟩:=s';obtain rfl:os'=s.os:=os;exact⟨v,H',I.call (h':=hh) (g':=g) (d':=d) (t':=t) (ch:=[]) un hok bare (fun b z=>absurd z (by simp)),r,q⟩
end
def pK_ (sp:Sp) (dvs:List V) (E:XK) (t:TA):TE:=fun σ H Q=>t σ H fun vs H1=>sp (vs++dvs) H1 Q E
def hx_ (K:W.Frag) (fd:FuncData) (ps:List Str) (ds:List Value):Prop:=
 ∀(s:Shared) (us:List Value),K.In s.heap->(us++ds).length=ps.length->BindsTo s fd ⟨us,[]⟩ (ps.zip (us++ds))
theorem hx_.all {K:W.Frag}{fd:FuncData}{ps:List Str} (h:∀us:List Value,us.length=ps.length->bindArgs fd ⟨us,[]⟩=pure (ps.zip us)):hx_ K fd ps []:=fun s us _ hl=>by
 rw [Ag] at hl⊢;exact .of_eq (h us hl)
def e3_ (CX:CXT) (X:Cx) (E:XK):Prop:=∀(pins:List (Addr×Obj)) (σ:St) (H:Hp) (s:Shared) (e:Value) (s':Shared),Inv X pins σ H s->CX X.stack H s E e s'->X.xe e s'
section
variable {X:Cx}{CX:CXT}{k:Nat}{f C:Addr}{fd:FuncData}{ps:List Str}{sp:Sp}{dvs:List V}{ds:List Value}{E:XK}{x m:Str}{p pos apos:Pos}{e o:Expr}{es:List Expr}{ta:TE}{t:TA}
theorem nu_ {pins:List (Addr×Obj)}{σ:St}{H:Hp}{s:Shared}{Q:VK}{us:List Value}{vs:List V} (F:FnOk X.prog X.w X.K X.mg X.base CX k f fd ps sp) (hr:Room k X.A) (hb:hx_ X.K fd ps ds) (hd:aP_ dvs ds) (hx:e3_ CX X E)
  (I:Inv X pins σ H s) (r:aP_ vs us) (h:sp (vs++dvs) H Q E):wpAny (model X.prog X.w) X.A (call (.ref f) us) (EP X pins σ Q) X.xe s:=by
 have r2:aP_ (vs++dvs) (us++ds):=r.append hd;have hl:(us++ds).length=ps.length:=by rw [<-r2.length];exact F.len _ _ _ _ h
 refine wpAny_call (CV (F.run X.A X.stack s H ⟨us,[]⟩ (us++ds) (vs++dvs) Q E hr I.env0 (hb s us I.kIn hl) r2 h) fun r s' hq=> ?_);cases r with
 |error e=>exact hx pins σ H s e s' I hq
 |ok fl=>
  cases fl with
  |ret u=>exact I.after hq
  |next=>exact False.elim hq
  |brk=>exact False.elim hq
  |cont=>exact False.elim hq
theorem ah_ (F:FnOk X.prog X.w X.K X.mg X.base CX k f fd ps sp) (hr:Room k X.A) (hg:Gl X x) (hm:X.mg x=some (.ref f)) (hk:W.keepIn X.K (.ref f)=true) (hb:hx_ X.K fd ps ds) (hd:aP_ dvs ds) (hx:e3_ CX X E)
  (ha:PA X (e::es) t) (hdb:(x==("__debug__":Str))=false:=by decide) (he:starEach (e::es) X.env=(false,eval e X.env)::starEach es X.env:=by rfl) (hpl:(backTo pos (starEach es X.env)).any (·.1)=false:=by rfl):
  PE X (.Call (.Name x p) (e::es) [] pos) (pK_ sp dvs E t):=by
 intro pins s σ H Q I h;refine B4 (eO_ I hg hm ?_ hdb);refine D' (h₀:=X.base) I.ok.mod.kin hk (thn (ha pos pins s σ H _ I h) fun us s1 ⟨vs,H1,I1,r,q⟩=>⟨I1.kIn, ?_⟩) he hpl;exact nu_ F hr hb hd hx I1 r q
end
section
variable {X:Cx}{CX:CXT}{k:Nat}{f C:Addr}{fd:FuncData}{ps ks:List Str}{sp:Sp}{E:XK}{x m:Str}{p pos apos kpos:Pos}{e o:Expr}{es:List Expr}{kws:List Keyword}{te ta:TE}{t tk:TA}{nm:Option Str}
variable {g:List Value->List Value->List Value}{gV:List V->List V->List V}
end
structure FnScope (N P:List Str) (sc:Scope):Prop where
 kind:sc.kind= .function
 co:sc.isCoroutine=false
 gen:sc.isGenerator=false
 nd:N.Nodup
 pre:N.take P.length=P
 par:∀x∈P,sc.names.lookup x=some .local\/sc.names.lookup x=some .cell
 nofree:∀y∈sc.names,y.2≠ .free
theorem ho_ {kindOf:Str->Option NameKind}{x:Str}:∀{binds:List (Str×Value)}{m:Str->Option Value},(∀v,(x,v)∉binds)->bindL kindOf binds m x=m x
 |[],_,_=>rfl
 |(n,v)::r,m,h=>by
  unfold bindL;rw [ho_ fun w hw=>h w (AR _ hw)];split
  .have:x≠n:=by rintro rfl;exact h v AU
   simp [this]
  .rfl
theorem hq_ {kindOf:Str->Option NameKind}{x:Str}:∀{binds:List (Str×Value)}{m:Str->Option Value},(∀v,(x,v)∉binds)->bindC kindOf binds m x=m x
 |[],_,_=>rfl
 |(n,v)::r,m,h=>by
  unfold bindC;rw [hq_ fun w hw=>h w (AR _ hw)];split
  .rfl
  .have:x≠n:=by rintro rfl;exact h v AU
   simp [this]
theorem hp_ {kindOf:Str->Option NameKind}{x:Str}{v:Value}:∀{P:List Str}{vs:List Value}{i:Nat}{m:Str->Option Value},P.Nodup->P[i]? =some x->vs[i]? =some v->kindOf x=some .local->
  bindL kindOf (P.zip vs) m x=some v
 |[],_,_,_,_,h,_,_=>by simp at h
 |_::_,[],_,_,_,_,h,_=>by simp at h
 |p::P,w::vs,0,m,nd,h1,h2,hk=>by
  simp at h1 h2;subst h1;subst h2;show bindL kindOf ((p,w)::P.zip vs) m p=_;unfold bindL;rw [ho_ fun v hv=>(BR.mp nd).1 (List.of_mem_zip hv).1,AA hk];simp
 |p::P,w::vs,i+1,m,nd,h1,h2,hk=>by
  show bindL kindOf ((p,w)::P.zip vs) m x=_;unfold bindL;exact hp_ (i:=i) (BR.mp nd).2 (by simpa using h1) (by simpa using h2) hk
theorem hr_ {kindOf:Str->Option NameKind}{x:Str}{v:Value}:∀{P:List Str}{vs:List Value}{i:Nat}{m:Str->Option Value},P.Nodup->P[i]? =some x->vs[i]? =some v->kindOf x≠some .local->
  bindC kindOf (P.zip vs) m x=some v
 |[],_,_,_,_,h,_,_=>by simp at h
 |_::_,[],_,_,_,_,h,_=>by simp at h
 |p::P,w::vs,0,m,nd,h1,h2,hk=>by
  simp at h1 h2;subst h1;subst h2;show bindC kindOf ((p,w)::P.zip vs) m p=_;unfold bindC;rw [hq_ fun v hv=>(BR.mp nd).1 (List.of_mem_zip hv).1,A9 hk];simp
 |p::P,w::vs,i+1,m,nd,h1,h2,hk=>by
  show bindC kindOf ((p,w)::P.zip vs) m x=_;unfold bindC;exact hr_ (i:=i) (BR.mp nd).2 (by simpa using h1) (by simpa using h2) hk
def start (N:List Str) (vs:List V):St:=vs.map some++List.replicate (N.length-vs.length) none
def ih_ (CX:CXT) (P:Program) (w:World) (K:W.Frag) (mg:Str->Option Value) (base:Heap) (N:List Str) (qual:Str) (scope:Scope) (f:Addr) (cd:Value) (A:Around) (outer:List Env) (s:Shared) (H:Hp) (E:XK):Cx where
 prog:=P
 w:=w
 K:=K
 mg:=mg
 base:=base
 A:=A.deeper (envOfC qual scope s.heap.objs.size f cd)
 N:=N
 s₀:=s
 H₀:=H
 env:=envOfC qual scope s.heap.objs.size f cd
 outer:=outer
 stack:=envOfC qual scope s.heap.objs.size f cd::outer
 ex:=[]
 calm:=true
 fn:=fun _=>true
 pn:=[]
 xe:=fun e s'=>wpAny (model P w) (A.deeper (envOfC qual scope s.heap.objs.size f cd)) (leaving (envOfC qual scope s.heap.objs.size f cd) e) (fun _ s''=>CX outer H s E e s'') (fun e' s''=>CX outer H s E e' s'') s'
theorem jn_ {sc:Scope}{n:Nat}{x:Str} (h:sc.names.lookup x=some .cell):∃c,(cellsFrom n sc.names []).lookup x=some c:=by
 have q:=W.cellsFrom_some sc.names n [] (.inl h);exact Option.isSome_iff_exists.mp q
theorem g8_ {CX:CXT}{P:Program}{w:World}{K:W.Frag}{mg:Str->Option Value}{base:Heap}{N ps:List Str}{qual:Str}{scope:Scope}{f:Addr}{cd:Value}{A:Around}{outer:List Env}{s s1:Shared}{H:Hp}{E:XK}{us:List Value}{vs:List V}
  (S:FnScope N ps scope) (hd:A.handled=none) (e0:Env0 P w K mg base A outer s H) (hl:vs.length=ps.length) (r:aP_ vs us)
  (x:InCallC s s.heap.objs.size (bindL (envOfC qual scope s.heap.objs.size f cd).kindOf (ps.zip us) fun _=>none) (cellsFrom (s.heap.objs.size+1) scope.names []) (bindC (envOfC qual scope s.heap.objs.size f cd).kindOf (ps.zip us) fun _=>none) s1):
  Inv (ih_ CX P w K mg base N qual scope f cd A outer s H E) [] (start N vs) H s1:=by
 have hpl:ps.length<=N.length:=by have:=Be List.length S.pre;rw [Ad] at this;lia
 obtain⟨h1,tk,rfl,hk⟩:=x.done;have noA:∀b:Addr,b∉(ih_ CX P w K mg base N qual scope f cd A outer s H E).ex:=fun b z=>absurd (show b∈([]:List Addr) from z) (by simp);refine⟨⟨e0.mod,S.kind,rfl,rfl,A7 _,fun y z c h1 h2=> ?_,fun y hy=> ?_,fun y c _ h=> ?_,fun _=>hd,Around.frames_deeper e0.frames, .inr ⟨rfl,rfl⟩,fun b z=>absurd z (noA b),e0.bs,e0.bsz,fun b _ _=>noA b,fun b z=>absurd z (noA b),e0.funs,e0.frf⟩,
  rfl,e0.bare,Un.kept hk,⟨_,x.toInCall.ns,fun i y v h1 h2 h3=> ?_⟩,fun y c h=>⟨_,x.cell y c h⟩,e0.hok.fresh (A7 _),fun y c h=> ?_,fun p hp=>absurd (show p∈([]:List (Addr×Obj)) from hp) (by simp),e0.hok.kept hk, ?_⟩
 .exact name_of_addr x.apart (C6 h1) (C6 h2)
 .have hy:scope.names.lookup y=some .cell\/scope.names.lookup y=some .free:=hy;rcases hy with hy|hy
  .exact jn_ hy
  .exact absurd rfl (S.nofree _ (C6 hy))
 .exact AZ (x.above y c (C6 h))
 .have hi:i<vs.length:=by
   unfold start at h2;by_cases hi:i<vs.length
   .exact hi
   .rw [BD (by simpa using hi)] at h2;rw [Ca] at h2;split at h2<;>cases h2
  have ha:vs[i]? =some v:=by
   unfold start at h2;rw [Bv (by simpa using hi),A6] at h2;cases e:vs[i]? with
   |none=>rw [e] at h2;cases h2
   |some a=>rw [e] at h2;cases h2;rfl
  obtain⟨u,hu,rv⟩:=r.get ha;have hp:ps[i]? =some y:=by
   rw [<-S.pre,List.getElem?_take_of_lt (by lia)];exact h1
  have ndP:ps.Nodup:=by rw [<-S.pre];exact S.nd.sublist (List.take_sublist _ _)
  refine⟨u,rv, ?_⟩;rcases S.par y (AS hp) with k|k
  .exact .inl ⟨k,hp_ ndP hp hu k⟩
  .obtain⟨c,e⟩:=jn_ (n:=s.heap.objs.size+1) k;refine .inr ⟨.inl k,c,e, ?_⟩;have q:=x.cell y c e;rw [hr_ ndP hp hu (by show scope.names.lookup y≠_;rw [k];decide)] at q;exact q
 .exact e0.hok.fresh (AZ (x.above y c (C6 h)))
 .unfold start;show _=N.length;rw [AB,A1,BM];lia
theorem qG_ {CX:CXT}{P:Program}{w:World}{K:W.Frag}{mg:Str->Option Value}{base:Heap}{k:Nat}{f:Addr}{name qual:Str}{params:Arguments}{body:List Stmt}{scope:Scope}{dV kV doc pm cdv ct oc:Value}{an od:Option Addr}
  {osl:Array (Option Value)}{N ps:List Str}{sp:Sp} (lk:K.lookup f=some ⟨oc,od, .func (W.fnOf name qual params body scope dV kV doc pm an cdv ct),osl⟩) (hcd:W.codeIn K cdv qual=true) (S:FnScope N ps scope)
  (len:∀vs H Q E,sp vs H Q E->vs.length=ps.length)
  (hbody:∀(A:Around) (outer:List Env) (s:Shared) (H:Hp) (vs:List V) (Q:VK) (E:XK),Room k (A.deeper (envOfC qual scope s.heap.objs.size f cdv))->sp vs H Q E->
   ∃t,PSs (ih_ CX P w K mg base N qual scope f cdv A outer s H E) body t/\t {nx:=fun _ H'=>Q .non H',rt:=Q} (start N vs) H):
  FnOk P w K mg base CX (k+1) f (W.fnOf name qual params body scope dV kV doc pm an cdv ct) ps sp:=by
 refine⟨len,fun A outer s H args us vs Q E hr e0 hb r hsp=> ?_⟩;have hl:=len _ _ _ _ hsp;have KX:K.In s.heap:=e0.mod.kin.keeps fun b o e=>(e0.bs b o e).1;have lim:s.heap.NoLimit:=e0.mod.nolimit.keeps fun b o e=>(e0.bs b o e).1;have hkind:∀y∈ps.zip us,scope.names.lookup y.1=some .local\/(scope.names.lookup y.1=some .cell/\((cellsFrom (s.heap.objs.size+1) scope.names []).lookup y.1).isSome=true):=fun⟨n,v⟩ hy=>by
  rcases S.par n (List.of_mem_zip hy).1 with q|q
  .exact .inl q
  .exact .inr ⟨q,W.cellsFrom_some _ _ _ (.inl q)⟩
 refine codeAny_call_function hr.depth (KX _ _ lk) rfl S.co S.gen rfl (W.codeRec_of KX hcd) (hb _ _ _ _ ?_);refine wpAny_newFunctionEnv_cells S.kind hkind fun env he s1 x=> ?_;subst he;refine⟨lim.keeps x.toInCall.keep,codeAny_func ?_⟩;obtain⟨t,ht,hq⟩:=hbody A outer s H vs Q E (hr.deeper _) hsp;have I:Inv (ih_ CX P w K mg base N qual scope f cdv A outer s H E) [] (start N vs) H s1:=g8_ S hr.hd e0 hl r x;refine BG (ht [] s1 (start N vs) H _ I hq) (fun fl s' hs=> ?_) fun e s' hs=>hs;have fin:∀{σ':St}{H':Hp}{v:V}{u:Value},Inv (ih_ CX P w K mg base N qual scope f cdv A outer s H E) [] σ' H' s'->aV_ v u->Q v H'->CE outer P w H s Q u s':=
  fun{σ' H' v u} J rv q=>⟨v,H',J.os,J.bare,J.base,J.hok,rv,q⟩
 cases fl with
 |ret u=>
  obtain⟨v,σ',H',J,rv,q⟩:=hs;exact fin J rv q
 |next=>
  obtain⟨σ',H',J,q⟩:=hs;exact fin (v:=V.non) (u:=Value.none) J rfl q
 |brk=>
  obtain⟨_,_,_,q⟩:=hs;exact False.elim q
 |cont=>
  obtain⟨_,_,_,q⟩:=hs;exact False.elim q
end L2
namespace L2
open PySem PySem.Spec PyProof.Rows
section
variable {X:Cx}{x:Str}{p pos:Pos}{e:Expr}{es:List Expr}{t:TA}{id T:String}{r:List V->Hp->VK->Prop}
def tCB (r:List V->Hp->VK->Prop) (t:TA):TE:=fun σ H Q=>t σ H fun vs H1=>r vs H1 Q
theorem aE_ (hc:b8_ X (.builtin id) r) (hg:Gl X x) (hm:X.mg x=none) (hv:bootBuiltins x=some (.builtin id)) (ha:PA X (e::es) t) (hn:x≠"__name__":=by decide) (hdb:(x==("__debug__":Str))=false:=by decide)
  (he:starEach (e::es) X.env=(false,eval e X.env)::starEach es X.env:=by rfl) (hpl:(backTo pos (starEach es X.env)).any (·.1)=false:=by rfl):PE X (.Call (.Name x p) (e::es) [] pos) (tCB r t):=by
 intro pins s σ H Q I h;refine B4 (cG_ I hg hm hv ?_ hn hdb);exact Co (thn (ha pos pins s σ H _ I h) fun us s1 ⟨vs,H1,I1,r1,q1⟩=>hc pins s1 σ H1 vs us Q I1 r1 q1) he hpl
theorem cz_ (hc:b8_ X (.type T) r) (hg:Gl X x) (hm:X.mg x=none) (hv:bootBuiltins x=some (.type T)) (ha:PA X (e::es) t) (hn:x≠"__name__":=by decide) (hdb:(x==("__debug__":Str))=false:=by decide)
  (he:starEach (e::es) X.env=(false,eval e X.env)::starEach es X.env:=by rfl) (hpl:(backTo pos (starEach es X.env)).any (·.1)=false:=by rfl):PE X (.Call (.Name x p) (e::es) [] pos) (tCB r t):=by
 intro pins s σ H Q I h;refine B4 (cG_ I hg hm hv ?_ hn hdb);exact B' (thn (ha pos pins s σ H _ I h) fun us s1 ⟨vs,H1,I1,r1,q1⟩=>hc pins s1 σ H1 vs us Q I1 r1 q1) he hpl
end
end L2
namespace HT
open PySem PyProof.Rows
section
open PySem.SeqAt
open PySem.AutoSeq1 (wpAny_loadPart')
open PySem.MeetsSeq PySem.MeetsSeq2 PySem.MeetsSeq3
end
section
variable {prog:Program}{w:World}{A:Around}{E:Value->Shared->Prop}{s:Shared}
theorem cat_tup {t b:Addr}{vs ws:List Value}{Q:Value->Shared->Prop} (ht:IsTup s.heap t vs.toArray) (hb:IsTup s.heap b ws.toArray) (hv:vs≠[])
  (h1:ws=[]->Q (.ref t) s) (h2:ws≠[]->Q (.ref s.heap.objs.size) {s with heap:=s.heap.push {cls:= .type "tuple",data:= .seq (vs++ws).toArray}})
  (hsz:vs.length+ws.length<=sizeLine):wpAny (model prog w) A (binaryOp .Add (.ref t) (.ref b)) Q E s:=by
 obtain⟨⟨cls,dd,data,sl⟩,ho,hc,n,hd⟩:=id ht;obtain⟨⟨cls2,dd2,data2,sl2⟩,ho2,hc2,n2,hd2⟩:=id hb;simp only at hc hd hc2 hd2;subst hc hd hc2 hd2;have e:vs.toArray++ws.toArray=(vs++ws).toArray:=by simp
 by_cases hw:ws=[]
 .exact concat_meets ⟨_,ho,rfl⟩ ⟨_,ho2,rfl⟩ noFill_tuple_add seq_tuple_add PySem.F.slot_tuple_add PySem.F.entry_tuple_add (PySem.F.args_tuple_add_2 _ _)
   (tuple_addW1 t b vs.toArray ws.toArray n n2 dd dd2 sl sl2 (by simpa using hv) (by simp [hw])) ⟨ho,ho2,h1 hw⟩
 .refine concat_meets ⟨_,ho,rfl⟩ ⟨_,ho2,rfl⟩ noFill_tuple_add seq_tuple_add PySem.F.slot_tuple_add PySem.F.entry_tuple_add (PySem.F.args_tuple_add_2 _ _)
   (tuple_addW2 t b vs.toArray ws.toArray n n2 dd dd2 sl sl2 (by simpa using hv) (by simpa using hw) (by rw [AC,AC];exact hsz)) ⟨ho,ho2, ?_⟩
  rw [e];exact h2 hw
def sIx (n d:Nat):Option Int->Nat
 |none=>d
 |some v=>if v<0 then(v+(n:Int)).toNat else min v.toNat n
theorem sIx_none (n d:Nat):sIx n d none=d:=rfl
theorem sIx_nat (n d k:Nat):sIx n d (some (k:Int))=min k n:=by
 show(if(k:Int)<0 then((k:Int)+(n:Int)).toNat else min (k:Int).toNat n)=min k n;rw [A9 (by lia),Ai]
theorem p0_ (n d:Nat) (hd:d<=n) (o:Option Int):sIx n d o<=n:=by
 cases o with
 |none=>exact hd
 |some v=>
  show(if v<0 then(v+(n:Int)).toNat else min v.toNat n)<=n;by_cases hv:v<0
  .rw [AA hv];lia
  .rw [A9 hv];exact Nat.min_le_right _ _
theorem lU_ (v:Int) (n d:Nat):(if v<0 then max (v+(n:Int)) 0 else min v (n:Int))=((sIx n d (some v):Nat):Int):=by
 show(if v<0 then max (v+(n:Int)) 0 else min v (n:Int))=(((if v<0 then(v+(n:Int)).toNat else min v.toNat n):Nat):Int);by_cases hv:v<0
 .simp only [AA hv];lia
 .simp only [A9 hv];lia
theorem j1_ (lo hi:Option Int) (n:Nat):Builtin.Slice.sliceAdjust lo hi 1 (n:Int)=(((sIx n 0 lo:Nat):Int),((sIx n n hi:Nat):Int)):=by
 have h1:¬((1:Int)<0):=by lia
 unfold Builtin.Slice.sliceAdjust;simp only [h1,Ah];refine Prod.ext ?_ ?_
 .cases lo with
  |none=>rfl
  |some v=>exact lU_ v n 0
 .cases hi with
  |none=>rfl
  |some v=>exact lU_ v n n
theorem jF_ (i j:Nat):Builtin.Slice.slicePlaces (i:Int) (j:Int) 1=j-i:=by
 unfold Builtin.Slice.slicePlaces;have h1:(1:Int)>0:=by lia
 simp only [h1,Bz,Int.ediv_one];split<;>lia
theorem fg_ {v:Value}{o:Option Int}{Q:Option Int->Shared->Prop} (p:IsPart v o) (h:Q o s):wpAny (model prog w) A (Builtin.Slice.slicePartIndex v) Q E s:=by
 cases p with
 |none=>exact slicePart_none h
 |int i t=>exact slicePart_int h
theorem ch_ {sl:Addr}{vl vu:Value}{lo hi:Option Int}{n:Nat}{Q:Int×Int×Nat->Shared->Prop} (hs:s.heap.IsSliceOf sl vl vu .none) (pl:IsPart vl lo) (pu:IsPart vu hi)
  (h:Q (((sIx n 0 lo:Nat):Int),1,sIx n n hi-sIx n 0 lo) s):wpAny (model prog w) A (Builtin.Slice.sliceApplied (.ref sl) (pure (n:Int))) Q E s:=by
 obtain⟨os,hos,hcs,hds⟩:=id hs;unfold Builtin.Slice.sliceApplied Builtin.Slice.sliceFields;refine A0 (A0 (BU hos hds (x:=vl) rfl (A0 (BU hos hds (x:=vu) rfl (A0 (BU hos hds (x:= .none) rfl (A2 ?_)))))));refine A0 (slicePart_none ?_);show wpAny _ _ (if((1:Int)==0)=true then _ else _) _ _ s;rw [A9 (by decide)];refine A0 (fg_ pl (A0 (fg_ pu (A0 (A2 ?_)))));show wpAny _ _ (match Builtin.Slice.sliceAdjust lo hi 1 (n:Int) with|(lo,hi)=>pure (lo,(1:Int),Builtin.Slice.slicePlaces lo hi 1)) _ _ s;rw [j1_ lo hi n];show wpAny _ _ (pure (((sIx n 0 lo:Nat):Int),(1:Int),Builtin.Slice.slicePlaces ((sIx n 0 lo:Nat):Int) ((sIx n n hi:Nat):Int) 1)) _ _ s;rw [jF_];exact A2 h
theorem my_ (xs:Array Value) (i k:Nat):((List.range k).filterMap fun(m:Nat)=>xs[((i:Int)+(m:Int)*1).toNat]?).toArray=((xs.toList.drop i).take k).toArray:=by
 have e:(fun(m:Nat)=>xs[((i:Int)+(m:Int)*1).toNat]?)=fun m=>xs[i+m]? :=by
  funext m
  have:((i:Int)+(m:Int)*1).toNat=i+m:=by lia
  rw [this]
 rw [e];have:=pick_run xs i k;rw [List.filterMap_map] at this;have e2:((fun x=>xs[x]?)∘fun x=>i+x)=fun m=>xs[i+m]? :=rfl;rw [e2] at this;rw [this]
theorem getItem_tuple_cut {t sl:Addr}{items:Array Value}{vl vu:Value}{lo hi:Option Int}{Q:Value->Shared->Prop} (ht:IsTup s.heap t items) (hs:s.heap.IsSliceOf sl vl vu .none) (pl:IsPart vl lo) (pu:IsPart vu hi)
  (hw:¬(sIx items.size 0 lo=0/\sIx items.size items.size hi=items.size))
  (h:Q (.ref s.heap.objs.size) {s with heap:=s.heap.push {cls:= .type "tuple",data:= .seq ((items.toList.drop (sIx items.size 0 lo)).take (sIx items.size items.size hi-sIx items.size 0 lo)).toArray}})
  (hsz:items.size<=sizeLine):wpAny (model prog w) A (getItem (.ref t) (.ref sl)) Q E s:=by
 have htake:sizeOk (.seq ((items.toList.drop (sIx items.size 0 lo)).take (sIx items.size items.size hi-sIx items.size 0 lo)).toArray):=by
  show((items.toList.drop (sIx items.size 0 lo)).take (sIx items.size items.size hi-sIx items.size 0 lo)).toArray.size<=sizeLine;rw [AC,Ad,Cp,B1];lia
 have hj:sIx items.size items.size hi<=items.size:=p0_ _ _ (A7 _) hi;obtain⟨os,hos,hcs,hds⟩:=id hs;have hTs:s.TypeIs (.ref sl) "slice":=⟨os,hos,hcs⟩;unfold getItem;try with_reducible refine An ?_
 first|refine A0 (A2 ?_)|skip
 refine A0 (wpAny_sequenceKey ht.typeIs (by decide) ?_);refine A0 (Ap (name:=Str.ofString "__getitem__") ht.typeIs BA
  (AY BA ht.typeIs entry_tuple_getitem ?_ (args_tuple_getitem _ _)))
 show wpAny _ _ (Builtin.Tuple.tupleItemsOf (.ref t)>>=_) _ _ s;refine A0 (tupleItemsOf_ ht ?_);refine A0 (DF hTs ?_);rw [AA (by decide)];refine A0 (ch_ hs pl pu ?_);have hno:¬((((sIx items.size 0 lo:Nat):Int)==0&&(1:Int)==1&&(sIx items.size items.size hi-sIx items.size 0 lo)==items.size)=true):=by
  intro q;rw [AN,AN] at q;have q1:((sIx items.size 0 lo:Nat):Int)=0:=eq_of_beq q.1.1;have q2:sIx items.size items.size hi-sIx items.size 0 lo=items.size:=eq_of_beq q.2;exact hw ⟨by lia,by lia⟩
 show wpAny _ _ (if(((sIx items.size 0 lo:Nat):Int)==0&&(1:Int)==1&&(sIx items.size items.size hi-sIx items.size 0 lo)==items.size)=true then _ else _) _ _ s;rw [A9 hno,my_];first
  |exact A0 (m:=Builtin.Tuple.tupleExact _) (Aj (A2 ⟨_,rfl,A2 h⟩) htake)
  |exact A0 (m:=Builtin.Tuple.tupleExact _) (Aj (A0 (A2 (A2 ⟨_,rfl,A2 h⟩))) htake)
  |exact A0 (A0 (m:=Builtin.Tuple.tupleExact _) (Aj (A2 (A2 ⟨_,rfl,A2 h⟩)) htake))
  |exact A0 (A0 (m:=Builtin.Tuple.tupleExact _) (Aj (A2 ⟨_,rfl,A2 h⟩) htake))
end
end HT
namespace L2
open PySem PySem.Spec PyProof.Rows
abbrev TO:=St->Hp->(Option Int->Hp->Prop)->Prop
def PO (X:Cx) (e:Option Expr) (t:TO):Prop:=
 ∀(pins:List (Addr×Obj)) (s:Shared) (σ:St) (H:Hp) (Q:Option Int->Hp->Prop),Inv X pins σ H s->t σ H Q->
  wpAny (model X.prog X.w) X.A (evalPart e X.env) (fun u s'=>∃o H',Inv X pins σ H' s'/\IsPart u o/\Q o H') X.xe s
def oc_:TO:=fun _ H Q=>Q none H
def rl_ (t:TE):TO:=fun σ H Q=>t σ H fun x H1=>∃i,x= .int i/\Q (some i) H1
theorem ft_ {ns:List Int}:∀{us:List Value},aP_ (ns.map V.int) us->IntsAre us ns:=by
 induction ns with
 |nil=>intro us r;rw [D5] at r;cases r;exact .nil
 |cons n ns ih=>
  intro us r;rw [AO] at r;cases r with
  |cons r1 r2=>
   obtain⟨t,e⟩:=r1;subst e;exact .cons n t (ih r2)
section
variable {X:Cx}{e:Expr}{te:TE}{lo hi:Option Expr}{tl th:TO}{pos p2:Pos}
theorem ce_:PO X none oc_:=by
 intro pins s σ H Q I h;rw [evalPart_none];exact A2 ⟨none,H,I, .none,h⟩
theorem bL_ (h:PE X e te):PO X (some e) (rl_ te):=by
 intro pins s σ H Q I hw;rw [evalPart_some];refine thn (h pins s σ H _ I hw) fun u s1 ⟨x,H1,I1,r1,q1⟩=> ?_;obtain⟨i,rfl,q⟩:=q1;obtain⟨t,rfl⟩:=r1;exact⟨some i,H1,I1, .int i t,q⟩
def SlR (X:Cx) (r:V->Option Int->Option Int->Hp->VK->Prop):Prop:=
 ∀(pins:List (Addr×Obj)) (s:Shared) (σ:St) (H:Hp) (x:V) (v vl vu:Value) (lo hi:Option Int) (sl:Addr) (Q:VK),Inv X pins σ H s->aV_ x v->s.heap.IsSliceOf sl vl vu .none->IsPart vl lo->IsPart vu hi->r x lo hi H Q->
  ∃T id,typeLookup (.type T) "__getitem__"=pure (some (.builtin id))/\s.TypeIs v T/\wpAny (model X.prog X.w) X.A (getItem v (.ref sl)) (EP X pins σ Q) X.xe s
def tSl (r:V->Option Int->Option Int->Hp->VK->Prop) (te:TE) (tl th:TO):TE:=fun σ H Q=>te σ H fun x H1=>tl σ H1 fun l H2=>th σ H2 fun u H3=>r x l u H3 Q
theorem bo_ {r:V->Option Int->Option Int->Hp->VK->Prop} (hr:SlR X r) (he:PE X e te) (hl:PO X lo tl) (hu:PO X hi th):PE X (.Subscript e (.Slice lo hi none p2) pos) (tSl r te tl th):=by
 intro pins s σ H Q I h;refine Subscript_ (thn (he pins s σ H _ I h) fun v s1 ⟨x,H1,I1,r1,q1⟩=> ?_);refine wpAny_Slice (thn (hl pins s1 σ H1 _ I1 q1) fun vl s2 ⟨l,H2,I2,pl,q2⟩=>thn (hu pins s2 σ H2 _ I2 q2) fun vu s3 ⟨u,H3,I3,pu,q3⟩=> ?_);rw [evalPart_none];refine A2 ?_;have I4:Inv X pins σ H3 {s3 with heap:=s3.heap.push {cls:= .type "slice",data:= .fields #[vl,vu, .none]}}:=I3.kept (t':=s3.toks) fun b ob q=>A4 _ q;obtain⟨T,id,hT,ht,hg⟩:=hr pins {s3 with heap:=s3.heap.push {cls:= .type "slice",data:= .fields #[vl,vu, .none]}} σ H3 x v vl vu l u s3.heap.objs.size Q I4 r1 (Heap.IsSliceOf.new ..) pl pu q3;show wpAny (model X.prog X.w) X.A (subscriptTail e (.Slice lo hi none p2) v (.ref s3.heap.objs.size)) (EP X pins σ Q) X.xe {s3 with heap:=s3.heap.push {cls:= .type "slice",data:= .fields #[vl,vu, .none]}};exact tail_any (ops:=[.ref s3.heap.objs.size,v]) ht hT hg (by with_unfolding_all rfl)
def go_ (xs:List V) (lo hi:Option Int):List V:=(xs.drop (HT.sIx xs.length 0 lo)).take (HT.sIx xs.length xs.length hi-HT.sIx xs.length 0 lo)
theorem eY_ (xs:List V) (lo hi:Option Int):(go_ xs lo hi).length<=xs.length:=by
 unfold go_;rw [Ad,Cp];lia
def sQ_ (K:W.Frag):V->Option Int->Option Int->Hp->VK->Prop:=fun x lo hi H Q=>∃a xs,x= .ref a/\SqT K H a xs/\
 ¬(HT.sIx xs.length 0 lo=0/\HT.sIx xs.length xs.length hi=xs.length)/\∀p,H p=none->Q (.ref p) (upd H p (.tup (go_ xs lo hi)))
theorem pY_:SlR X (sQ_ X.K):=by
 intro pins s σ H x v vl vu lo hi sl Q I rx hs pl pu h;obtain⟨a,xs,rfl,hx,hw,q⟩:=h;cases rx;obtain⟨its,r,ht,hz⟩:=I.tuple hx;have hlen:its.toArray.size=xs.length:=by rw [AC];exact r.length.symm
 refine⟨"tuple",_,BA.lookup,ht.typeIs, ?_⟩;refine HT.getItem_tuple_cut ht hs pl pu (by rw [hlen];exact hw) ?_ (by rw [hlen];exact hz);rw [hlen];refine⟨.ref s.heap.objs.size,_,I.laid (t':=s.toks) (o:= .tup (go_ xs lo hi)) (fun b ob q=>A4 _ q) (A7 _) ?_,rfl,q _ (I.hok.fresh (A7 _))⟩;exact⟨Az (eY_ xs lo hi) hz,_,(r.drop (HT.sIx xs.length 0 lo)).take (HT.sIx xs.length xs.length hi-HT.sIx xs.length 0 lo),IsTup.new _ _⟩
def rX_ (K:W.Frag):R2:=fun x y H Q=>∃a b xs ys,x= .ref a/\y= .ref b/\SqT K H a xs/\SqT K H b ys/\xs≠[]/\xs.length+ys.length<=sizeLine/\
 (ys=[]->Q (.ref a) H)/\(ys≠[]->∀p,H p=none->Q (.ref p) (upd H p (.tup (xs++ys))))
theorem aP_.nil_iff {xs:List V}{us:List Value} (r:aP_ xs us):us=[]↔xs=[]:=by
 cases r with
 |nil=>simp
 |cons _ _=>simp
theorem oJ_:OpR X (binaryOp .Add) (rX_ X.K):=by
 intro pins s σ H x y v u Q I rx ry h;obtain⟨a,b,xs,ys,rfl,rfl,ha,hb,hx,hz,q1,q2⟩:=h;cases rx;cases ry;obtain⟨its,r1,p1,_⟩:=I.tuple ha;obtain⟨its2,r2,p2,_⟩:=I.tuple hb;refine HT.cat_tup p1 p2 (fun z=>hx (r1.nil_iff.mp z)) (fun z=>⟨.ref a,H,I,rfl,q1 (r2.nil_iff.mp z)⟩) (fun z=> ?_) (by rw [<-r1.length,<-r2.length];exact hz);refine⟨.ref s.heap.objs.size,_,I.laid (t':=s.toks) (o:= .tup (xs++ys)) (fun b ob q=>A4 _ q) (A7 _) ?_,rfl,q2 (fun w=>z (r2.nil_iff.mpr w)) _ (I.hok.fresh (A7 _))⟩;exact⟨by rw [AB];exact hz,_,r1.append r2,IsTup.new _ _⟩
end
end L2
namespace L2
open PySem PySem.Spec PyProof.Rows
def ixN (n:Nat) (i:Int):Option Nat:=if 0<=i then(if i<n then some i.toNat else none) else if -(n:Int)<=i then some (i+n).toNat else none
def atI {α:Type} (xs:List α) (i:Int):Option α:=(ixN xs.length i).bind fun j=>xs[j]?
theorem lo_ {n:Nat}{i:Int}{j:Nat} (h:ixN n i=some j):seqIndex? i n=some j/\j<n/\-(n:Int)<=i/\i<n:=by
 unfold ixN at h;by_cases h0:0<=i
 .rw [AA h0] at h;by_cases h1:i<n
  .rw [AA h1] at h;have e:i.toNat=j:=Ac h;exact⟨by rw [seqIndex_of h0 h1,e],by lia,by lia,h1⟩
  .rw [A9 h1] at h;cases h
 .rw [A9 h0] at h;by_cases h1: -(n:Int)<=i
  .rw [AA h1] at h;have e:(i+n).toNat=j:=Ac h;exact⟨by rw [seqIndex_neg (by lia) h1,e],by lia,h1,by lia⟩
  .rw [A9 h1] at h;cases h
theorem l0_ {α:Type}{xs:List α}{i:Int}{v:α} (h:atI xs i=some v):∃j,seqIndex? i xs.length=some j/\xs[j]? =some v/\j<xs.length/\-(xs.length:Int)<=i/\i<xs.length:=by
 unfold atI at h;cases e:ixN xs.length i with
 |none=>rw [e] at h;cases h
 |some j=>
  rw [e] at h;obtain⟨h1,h2,h3,h4⟩:=lo_ e;exact⟨j,h1,h,h2,h3,h4⟩
theorem im_ {α:Type}{xs:List α}{j:Nat}{v:α} (h:xs[j]? =some v):atI xs (j:Int)=some v:=by
 have hj:j<xs.length:=(AD.mp h).1;have e:ixN xs.length (j:Int)=some j:=by
  unfold ixN;rw [AA (by lia),AA (by lia)];simp
 unfold atI;rw [e];exact h
def pk_ (b:Expr):Prop:=∀o i,subscripted b false o i=operate [o,i] (getItem o i)
def IxR (X:Cx) (r:R2):Prop:=
 ∀(value slice:Expr) (pins:List (Addr×Obj)) (s:Shared) (σ:St) (H:Hp) (x y:V) (v u:Value) (Q:VK),Inv X pins σ H s->aV_ x v->aV_ y u->r x y H Q->
  subscripted slice false v u=operate [v,u] (getItem v u)->wpAny (model X.prog X.w) X.A (subscriptTail value slice v u) (EP X pins σ Q) X.xe s
def MtR (X:Cx) (id:String) (r:V->List V->Hp->VK->Prop):Prop:=
 ∀(pins:List (Addr×Obj)) (s:Shared) (σ:St) (H:Hp) (x:V) (xs:List V) (v:Value) (us:List Value) (Q:VK),Inv X pins σ H s->aV_ x v->aP_ xs us->r x xs H Q->
  wpAny (model X.prog X.w) X.A (call (.builtin id) (v::us)) (EP X pins σ Q) X.xe s
section
variable {X:Cx}{a b:Expr}{ta tb:TE}{pos:Pos}
theorem a4_ {r:R2} (hr:IxR X r) (ha:PE X a ta) (hb:PE X b tb) (hs:pk_ b):PE X (.Subscript a b pos) (tOp r ta tb):=by
 intro pins s σ H Q I h;exact Subscript_ (sf_ ha hb I h fun v u s2 x y H2 I2 rx ry q=>hr a b pins s2 σ H2 x y v u Q I2 rx ry q (hs _ _))
def sW_ (K:W.Frag):R2:=fun x y H Q=>∃p xs i v,x= .ref p/\y= .int i/\SqL K H p xs/\atI xs i=some v/\Q v H
def sV_ (K:W.Frag):R2:=fun x y H Q=>∃p xs i v,x= .ref p/\y= .int i/\SqT K H p xs/\atI xs i=some v/\Q v H
theorem bc_:IxR X (sW_ X.K):=by
 intro value slice pins s σ H x y v u Q I rx ry h hs;obtain⟨p,xs,i,z,rfl,rfl,hq,he,q⟩:=h;cases rx;obtain⟨t,rfl⟩:=ry;obtain⟨its,r,pl,hz⟩:=I.list hq;obtain⟨j,h1,h2,h3,h4,h5⟩:=l0_ he;obtain⟨w,ew,rw'⟩:=r.get h2;have hl:=r.length;have hn:=eK_;have fin:EP X pins σ Q w s:=⟨z,H,I,rw',q⟩;by_cases h0:0<=i
 .have hj:i.toNat=j:=by
   rw [seqIndex_of h0 h5] at h1;exact Ac h1
  exact item_listR pl.isList h0 (by lia) (by rw [hj];simpa using ew) fin hs
 .have hj:(i+(its.toArray.size:Int)).toNat=j:=by
   rw [seqIndex_neg (by lia) h4] at h1;rw [AC,<-hl];exact Ac h1
  exact subscriptTail_builtinR (x:=w) pl.isList.typeIs slot_list_getitem.lookup
   (wpAny_getItem_list_neg (Q:=fun r s'=>r=w/\EP X pins σ Q r s') pl.isList (by lia) (by rw [AC]<;>lia) (by lia) (by rw [hj];simpa using ew) ⟨rfl,fin⟩) hs
theorem qx_:IxR X (sV_ X.K):=by
 intro value slice pins s σ H x y v u Q I rx ry h hs;obtain⟨p,xs,i,z,rfl,rfl,hq,he,q⟩:=h;cases rx;obtain⟨t,rfl⟩:=ry;obtain⟨its,r,pl,hz⟩:=I.tuple hq;obtain⟨j,h1,h2,h3,h4,h5⟩:=l0_ he;obtain⟨w,ew,rw'⟩:=r.get h2;have hl:=r.length;have hn:=eK_;have fin:EP X pins σ Q w s:=⟨z,H,I,rw',q⟩;exact subscriptTail_builtinR (x:=w) pl.typeIs slot_tuple_getitem.lookup
  (getItem_tuple (j:=j) (Q:=fun r s'=>r=w/\EP X pins σ Q r s') pl (by lia) (by lia) (by rw [AC,<-hl];exact h1) (by simpa using ew) ⟨rfl,fin⟩) hs
theorem jK_ (its:List Value) (n j:Nat) (u:Value):Obj.mapSeq (·.setIfInBounds j u) {cls:= .type "list",data:= .seq its.toArray n}={cls:= .type "list",data:= .seq (its.set j u).toArray n}:=by
 simp [Obj.mapSeq]
theorem Inv.lst {pins:List (Addr×Obj)}{σ:St}{H:Hp}{s:Shared}{p:Addr}{xs:List V} (I:Inv X pins σ H s) (h:H p=some (.lst xs)):
  ∃(its:List Value) (n:Nat),aP_ xs its/\s.heap.get? p=some {cls:= .type "list",data:= .seq its.toArray n}/\xs.length<=sizeLine:=by
 obtain⟨z,its,n,r,e⟩:=I.hok p _ h;exact⟨its,n,r,e,z⟩
theorem Inv.lstUpd {pins:List (Addr×Obj)}{σ:St}{H:Hp}{s:Shared}{p:Addr}{xs ys:List V}{its its':List Value}{n n':Nat}{f:Obj->Obj} (I:Inv X pins σ H s) (h:H p=some (.lst xs))
  (ho:s.heap.get? p=some {cls:= .type "list",data:= .seq its.toArray n}) (hf:f {cls:= .type "list",data:= .seq its.toArray n}={cls:= .type "list",data:= .seq its'.toArray n'}) (r:aP_ ys its') (hz:ys.length<=sizeLine) (t:Nat):
  Inv X pins σ (upd H p (.lst ys)) {s with heap:=s.heap.update p f,toks:=t}:=by
 have e:(s.heap.update p f).get? p=some {cls:= .type "list",data:= .seq its'.toArray n'}:=by
  rw [C3 f ho (by rw [hf]<;>rfl),hf]
 refine I.write (x:=p) (e:=p) (by rw [h];trivial) (.inl rfl) (fun b u hb q=>(Heap.get?_update_other _ _ (D3 hb)).trans q) ⟨_,e⟩ ?_;exact⟨hz,its',n',r,e⟩
def rU_:V->V->V->Hp->(Hp->Prop)->Prop:=fun o i v H Q=>∃p xs k j,o= .ref p/\i= .int k/\H p=some (.lst xs)/\ixN xs.length k=some j/\Q (upd H p (.lst (xs.set j v)))
theorem de_:sh_ X rU_:=by
 intro pins s σ H o i v ov iv u Q I ro ri rv h;obtain⟨p,xs,k,j,rfl,rfl,hp,hj,q⟩:=h;cases ro;obtain⟨t,rfl⟩:=ri;obtain⟨its,n,r,ho,hz⟩:=I.lst hp;obtain⟨h1,h2,h3,h4⟩:=lo_ hj;have hl:=r.length;have hn:=eK_;have I':Inv X pins σ (upd H p (.lst (xs.set j v))) {s with heap:=s.heap.update p (Obj.mapSeq (·.setIfInBounds j u))}:=
  I.lstUpd hp ho (jK_ its n j u) (r.set rv j) (by rw [Ba];exact hz) s.toks
 by_cases h0:0<=k
 .have hk:k.toNat=j:=by
   rw [seqIndex_of h0 h4] at h1;exact Ac h1
  exact W.ki_setAt ho h0 (by lia) (by rw [AC,<-hl];exact h4) (by rw [hk];exact⟨_,I',q⟩)
 .have hk:(k+(its.toArray.size:Int)).toNat=j:=by
   rw [seqIndex_neg (by lia) h3] at h1;rw [AC,<-hl];exact Ac h1
  exact W.ki_setBack ho (by lia) (by rw [AC,<-hl];exact h3) (by lia) (by rw [hk];exact⟨_,I',q⟩)
theorem gD_ (lo hi:Option Int) (n:Nat):(sliceBounds lo hi none n).1=((HT.sIx n 0 lo:Nat):Int)/\(sliceBounds lo hi none n).2.1=((HT.sIx n n hi:Nat):Int)/\(sliceBounds lo hi none n).2.2=1:=by
 refine⟨?_, ?_,rfl⟩
 .cases lo with
  |none=>simp [sliceBounds,HT.sIx]
  |some i=>
   simp only [sliceBounds,HT.sIx,Option.getD_none,show(1:Int)>0 by decide,Bz];by_cases h:i<0
   .simp only [h,Bz]<;>lia
   .simp only [h,Ah]<;>lia
 .cases hi with
  |none=>simp [sliceBounds,HT.sIx]
  |some i=>
   simp only [sliceBounds,HT.sIx,Option.getD_none,show(1:Int)>0 by decide,Bz];by_cases h:i<0
   .simp only [h,Bz]<;>lia
   .simp only [h,Ah]<;>lia
theorem fH_ (its:List Value) (lo hi:Option Int):slicePick its.toArray lo hi none=((its.drop (HT.sIx its.length 0 lo)).take (HT.sIx its.length its.length hi-HT.sIx its.length 0 lo)).toArray:=by
 obtain⟨h1,h2,h3⟩:=gD_ lo hi its.toArray.size;unfold slicePick;rw [h1,h2,h3];simp only [sliceRange_one,pick_run,AC]<;>rfl
def sR_ (K:W.Frag):V->Option Int->Option Int->Hp->VK->Prop:=fun x lo hi H Q=>∃a xs,x= .ref a/\SqL K H a xs/\∀p,H p=none->Q (.ref p) (upd H p (.lst (go_ xs lo hi)))
theorem cp_:SlR X (sR_ X.K):=by
 intro pins s σ H x v vl vu lo hi sl Q I rx hs pl pu h;obtain⟨a,xs,rfl,hx,q⟩:=h;cases rx;obtain⟨its,r,ht,hz⟩:=I.list hx;have hlen:=r.length;refine⟨"list",_,slot_list_getitem.lookup,ht.isList.typeIs, ?_⟩;refine wpAny_getItem_list_slice ht.isList hs pl pu .none (by simp) ?_ (by rw [AC]<;>lia)
 rw [fH_,<-hlen];refine⟨.ref s.heap.objs.size,_,I.laid (t':=s.toks) (o:= .lst (go_ xs lo hi)) (fun b ob q=>A4 _ q) (A7 _) ?_,rfl,q _ (I.hok.fresh (A7 _))⟩;exact⟨Az (eY_ xs lo hi) hz,_,0,(r.drop (HT.sIx xs.length 0 lo)).take (HT.sIx xs.length xs.length hi-HT.sIx xs.length 0 lo),AE _ rfl⟩
theorem bv_:b8_ X (.builtin "len") (fun xs H Q=>∃p ys,xs=[.ref p]/\(SqL X.K H p ys\/SqT X.K H p ys)/\Q (.int ys.length) H):=by
 intro pins s σ H xs us Q I r h;obtain⟨p,ys,rfl,hq,q⟩:=h;obtain⟨u,rfl,rx⟩:=fD_ r;cases rx;have hn:=eK_;rcases hq with hq|hq
 .obtain⟨its,r',pl,hz⟩:=I.list hq;have hlen:=r'.length;exact Calls.call_len_list pl.isList (by simp only [AC]<;>lia) ⟨.int ys.length,H,I.tok _,⟨s.toks+1,by rw [AC,hlen]⟩,q⟩
 .obtain⟨its,r',pl,hz⟩:=I.tuple hq;have hlen:=r'.length;exact len_tuple pl (by simp only [AC]<;>lia) ⟨.int ys.length,H,I.tok _,⟨s.toks+1,by rw [AC,hlen]⟩,q⟩
theorem hn_:b8_ X (.type "list") (fun xs H Q=>∃p ys,xs=[.ref p]/\(SqL X.K H p ys\/SqT X.K H p ys)/\∀l,H l=none->Q (.ref l) (upd H l (.lst ys))):=by
 intro pins s σ H xs us Q I r h;obtain⟨p,ys,rfl,hq,q⟩:=h;obtain⟨u,rfl,rx⟩:=fD_ r;cases rx;have fin:∀(its:List Value),aP_ ys its->ys.length<=sizeLine->∀(h':Heap) (c':Nat),(∀b o',s.heap.get? b=some o'->h'.get? b=some o')->
   h'.get? s.heap.objs.size=some {cls:= .type "list",dict:=none,data:= .seq its.toArray c',slots:= #[]}->EP X pins σ Q (.ref s.heap.objs.size) {s with heap:=h'}:=fun its r' hz h' c' kp e=>
  ⟨.ref s.heap.objs.size,_,I.laid (t':=s.toks) kp (A7 _) (show aH_ X.prog X.w _ h' _ (.lst ys) from⟨hz,its,c',r',e⟩),rfl,q _ (I.hok.fresh (A7 _))⟩
 rcases hq with hq|hq
 .obtain⟨its,r',pl,hz⟩:=I.list hq;have hlen:=r'.length;obtain⟨o,ho,hc,n,hd⟩:=pl.isList;exact call_list_seq p (.inl rfl) ho hc hd (fun h' c' kp e=>fin its r' hz h' c' kp e) (by simp only [AC]<;>lia)
 .obtain⟨its,r',pl,hz⟩:=I.tuple hq;have hlen:=r'.length;obtain⟨o,ho,hc,n,hd⟩:=pl;exact call_list_seq p (.inr rfl) ho hc hd (fun h' c' kp e=>fin its r' hz h' c' kp e) (by simp only [AC]<;>lia)
theorem dv_:b8_ X (.type "tuple") (fun xs H Q=>∃p ys,xs=[.ref p]/\((SqL X.K H p ys/\∀l,H l=none->Q (.ref l) (upd H l (.tup ys)))\/(SqT X.K H p ys/\Q (.ref p) H))):=by
 intro pins s σ H xs us Q I r h;obtain⟨p,ys,rfl,h⟩:=h;obtain⟨u,rfl,rx⟩:=fD_ r;cases rx;rcases h with⟨hq,q⟩|⟨hq,q⟩
 .obtain⟨its,r',pl,hz⟩:=I.list hq;have hlen:=r'.length;refine call_tuple_list pl.isList (fun h' kp=> ?_) (by simp only [AC]<;>lia)
  have I1:Inv X pins σ H {s with heap:=h'}:=I.kept (t':=s.toks) kp;have I2:Inv X pins σ (upd H h'.objs.size (.tup ys)) {s with heap:=h'.push {cls:= .type "tuple",data:= .seq its.toArray}}:=
   I1.laid (t':=s.toks) (fun b o e=>A4 _ e) (A7 _) (show aH_ X.prog X.w _ _ _ (.tup ys) from⟨hz,its,r',IsTup.new _ _⟩)
  exact⟨.ref h'.objs.size,_,I2,rfl,q _ (I1.hok.fresh (A7 _))⟩
 .obtain⟨its,r',pl,hz⟩:=I.tuple hq;exact call_tuple_same pl ⟨.ref p,H,I,rfl,q⟩
def tyV (K:W.Frag) (T:String) (x:V) (H:Hp):Prop:=match x with
 | .str _=>T="str"
 | .int _=>T="int"
 | .ref p=>(T="list"/\∃xs,SqL K H p xs)\/(T="tuple"/\∃o,K.lookup p=some o/\o.cls= .type "tuple"/\o.dict=none)\/
   (T="dict"/\((∃kvs,H p=some (.dK kvs))\/∃kvs,H p=some (.dT kvs)))\/(T="set"/\∃S n,H p=some (.set S n))
 |_=>False
theorem nk_ {pins:List (Addr×Obj)}{σ:St}{H:Hp}{s:Shared}{T:String}{x:V}{v:Value} (I:Inv X pins σ H s) (r:aV_ x v) (ty:tyV X.K T x H):
  s.TypeIs v T/\∀a,v= .ref a->∃ob,s.heap.get? a=some ob/\ob.dict=none:=by
 cases x with
 |str z=>
  obtain⟨t,rfl⟩:=r;cases (show T="str" from ty);exact⟨typeIs_str s z t,fun _ e=>nomatch e⟩
 |int i=>
  obtain⟨t,rfl⟩:=r;cases (show T="int" from ty);exact⟨typeIs_int s i t,fun _ e=>nomatch e⟩
 |ref p=>
  cases r;rcases ty with⟨rfl,xs,hq⟩|⟨rfl,o,hk,hc,hd⟩|⟨rfl,hk⟩|⟨rfl,S,n,hk⟩
  .obtain⟨its,_,pl,_⟩:=I.list hq;refine⟨pl.isList.typeIs,fun a e=> ?_⟩;cases e;obtain⟨o,n,e,c,hd,_⟩:=pl;exact⟨o,e,hd⟩
  .refine⟨⟨o,I.kIn p o hk,hc⟩,fun a e=> ?_⟩;cases e;exact⟨o,I.kIn _ o hk,hd⟩
  .have z:∃o,s.heap.get? p=some o/\o.ExactDict:=by
    rcases hk with⟨kvs,hk⟩|⟨kvs,hk⟩
    .obtain⟨_,_,_,_,o,_,_,e,ex,_⟩:=I.hok p _ hk;exact⟨o,e,ex⟩
    .obtain⟨_,_,_,_,o,_,_,e,ex,_⟩:=I.hok p _ hk;exact⟨o,e,ex⟩
   obtain⟨o,e,ex⟩:=z;refine⟨⟨o,e,ex.1⟩,fun a e2=> ?_⟩;cases e2;exact⟨o,e,ex.2.1⟩
  .obtain⟨o,_,_,_,e,ex,_⟩:=I.hok p _ hk;refine⟨⟨o,e,ex.1⟩,fun a e2=> ?_⟩;cases e2;exact⟨o,e,ex.2.1⟩
 |_=>exact False.elim ty
def sI_ (K:W.Frag) (T:String) (r:V->List V->Hp->VK->Prop) (to:TE):TE:=fun σ H Q=>to σ H fun x H1=>tyV K T x H1/\r x [] H1 Q
def tBM (K:W.Frag) (T:String) (r:V->List V->Hp->VK->Prop) (to:TE) (t:TA):TE:=fun σ H Q=>to σ H fun x H1=>tyV K T x H1/\t σ H1 fun xs H2=>r x xs H2 Q
variable {o e:Expr}{es:List Expr}{to:TE}{t:TA}{name:Str}{apos cpos:Pos}{T id:String}{r:V->List V->Hp->VK->Prop}
theorem p6_ (pa:PlainAttrs T) (slot:Slot T name id) (hty:typeOf (.builtin id)=pure (.type "method_descriptor")) (hm:MtR X id r) (ho:PE X o to)
  (hbase:attributeBase o name X.env (eval o X.env)=eval o X.env:=by rfl) (hline:(apos.endLine==cpos.line)=true:=by rfl):PE X (.Call (.Attribute o name apos) [] [] cpos) (sI_ X.K T r to):=by
 intro pins s σ H Q I h;refine wpAny_Call_method0_late hbase hline (thn (ho pins s σ H _ I h) fun v s1 ⟨x,H1,I1,r1,ty,q1⟩=> ?_);obtain⟨h1,h2⟩:=nk_ I1 r1 ty;exact⟨T,id,pa,slot,hty,h1,h2,Cw rfl (PySem.evalArgs_none (hm pins s1 σ H1 x [] v [] Q I1 r1 .nil q1))⟩
theorem dF_ (pa:PlainAttrs T) (slot:Slot T name id) (hty:typeOf (.builtin id)=pure (.type "method_descriptor")) (hm:MtR X id r) (ho:PE X o to) (ha:PA X (e::es) t)
  (hbase:attributeBase o name X.env (eval o X.env)=eval o X.env:=by rfl)
  (hfew:((backTo cpos (starEach (e::es) X.env)).all (fun x=> !x.1)&&(backToKw cpos (keywordEach [] X.env)).all (fun x=>x.1.isSome)
   &&decide ((e::es).length+([]:List Keyword).length+(if([]:List Keyword).isEmpty then 0 else 1)<30))=true:=by rfl)
  (hline:(apos.endLine==cpos.line)=true:=by rfl) (hs:starEach (e::es) X.env=(false,eval e X.env)::starEach es X.env:=by rfl) (hplain:(backTo cpos (starEach es X.env)).any (·.1)=false:=by rfl):
  PE X (.Call (.Attribute o name apos) (e::es) [] cpos) (tBM X.K T r to t):=by
 intro pins s σ H Q I h;refine wpAny_Call_method_late hbase hfew hline rfl (thn (ho pins s σ H _ I h) fun v s1 ⟨x,H1,I1,r1,ty,q1⟩=> ?_);obtain⟨h1,h2⟩:=nk_ I1 r1 ty;refine⟨T,id,pa,slot,hty,h1,h2, ?_⟩;have hA:=ha cpos pins s1 σ H1 _ I1 q1;rw [hs] at hA⊢;refine Cw (by show(false||(backTo cpos (starEach es X.env)).any (·.1))=false;rw [hplain]<;>rfl) (Calls.evalArgs_plain ?_)
 exact thn hA fun us s2 ⟨vs,H2,I2,r2,q2⟩=>hm pins s2 σ H2 x vs v us Q I2 r1 r2 q2
end
end L2
namespace L2
open PySem PySem.Spec PyProof.Rows
def MtM (X:Cx) (id:String) (r:V->List V->Hp->VK->Prop):Prop:=
 ∀(pins:List (Addr×Obj)) (s:Shared) (σ:St) (H:Hp) (x:V) (xs:List V) (v:Value) (us:List Value) (Q:VK),Inv X pins σ H s->aV_ x v->aP_ xs us->r x xs H Q->
  wpAny (model X.prog X.w) X.A (call (.builtin id) (v::us)) (EP X pins σ Q) X.xe s
theorem aP_.one:∀{x:V}{us:List Value},aP_ [x] us->∃u,us=[u]/\aV_ x u
 |_,_, .cons r .nil=>⟨_,rfl,r⟩
theorem aP_.zero:∀{us:List Value},aP_ [] us->us=[]
 |_, .nil=>rfl
theorem aP_.dropLast {xs:List V}{us:List Value} (h:aP_ xs us):aP_ xs.dropLast us.dropLast:=by
 induction h with
 |nil=>exact .nil
 |cons r t ih=>
  cases t with
  |nil=>exact .nil
  |cons q t'=>exact .cons r ih
theorem aP_.rep {xs:List V}{us:List Value} (h:aP_ xs us):∀k:Nat,aP_ (List.replicate k xs).flatten (List.replicate k us).flatten
 |0=> .nil
 |k+1=>by
  rw [BI,BI,Cf,Cf];exact aP_.append h (aP_.rep h k)
theorem jT_ {α:Type} (l:List α):l.eraseIdx (l.length-1)=l.dropLast:=by
 induction l with
 |nil=>rfl
 |cons a r ih=>
  cases r with
  |nil=>rfl
  |cons b r=>
   have e:(a::b::r).length-1=((b::r).length-1)+1:=by
    have h1:(a::b::r).length=r.length+2:=rfl;have h2:(b::r).length=r.length+1:=rfl;lia
   rw [e,List.eraseIdx_cons_succ,ih];all_goals rfl
theorem g9_ (its:List Value):∀(k:Nat) (acc:List Value),
  List.foldl (fun x1 x2=>x1++x2) acc.toArray (List.replicate k its.toArray)=(acc++(List.replicate k its).flatten).toArray
 |0,acc=>by simp
 |k+1,acc=>by
  have e:acc.toArray++its.toArray=(acc++its).toArray:=by simp
  have e2:(acc++its)++(List.replicate k its).flatten=acc++(List.replicate (k+1) its).flatten:=by
   rw [BI,Cf,B2]
  rw [<-e2,<-g9_ its k (acc++its),<-e,BI,Cy]
section
variable {X:Cx}{pins:List (Addr×Obj)}{σ:St}{H:Hp}{s:Shared}{l b:Addr}{xs ys zs:List V}
theorem Inv.lset {its its':List Value}{n:Nat}{f:Array Value->Array Value}{t':Nat} (I:Inv X pins σ H s) (hH:H l=some (.lst xs))
  (e:s.heap.get? l=some {cls:= .type "list",data:= .seq its.toArray n}) (hf:f its.toArray=its'.toArray) (hv:aP_ ys its') (hz:ys.length<=sizeLine):
  Inv X pins σ (upd H l (.lst ys)) {s with heap:=s.heap.update l (Obj.mapSeq f),toks:=t'}:=by
 have q:=PySem.IsL.update e f;rw [hf] at q;refine I.write (x:=l) (e:=l) (by rw [hH];exact trivial) (.inl rfl) (fun b' u hb hu=>(Heap.get?_update_other s.heap (Obj.mapSeq f) (D3 hb)).trans hu) ⟨_,q⟩ ?_;exact⟨hz,its',_,hv,q⟩
theorem Inv.lnew {its:List Value}{t':Nat} (I:Inv X pins σ H s) (hv:aP_ ys its) (hz:ys.length<=sizeLine):
  Inv X pins σ (upd H s.heap.objs.size (.lst ys)) {s with heap:=s.heap.push {cls:= .type "list",data:= .seq its.toArray},toks:=t'}:=
 I.laid (fun _ _ q=>A4 _ q) (A7 _) ⟨hz,its,0,hv,AE _ rfl⟩
theorem Inv.fresh (I:Inv X pins σ H s):H s.heap.objs.size=none:=I.hok.fresh (A7 _)
theorem Inv.lstM (I:Inv X pins σ H s) (hH:H l=some (.lst xs)):xs.length<=sizeLine/\∃(its:List Value) (n:Nat),aP_ xs its/\xs.length=its.length/\s.heap.get? l=some {cls:= .type "list",data:= .seq its.toArray n}:=by
 obtain⟨z,its,n,r,e⟩:=I.hok l _ hH;exact⟨z,its,n,r,r.length,e⟩
theorem iL_ {n:Nat} (h:n<=sizeLine):Builtin.List.listTooLong n=false:=by
 unfold Builtin.List.listTooLong;exact Ak (by lia)
end
section
variable {X:Cx}
def dE_:V->List V->Hp->VK->Prop:=fun x vs H Q=>∃l xs y,x= .ref l/\vs=[y]/\H l=some (.lst xs)/\xs.length<sizeLine/\Q .non (upd H l (.lst (xs++[y])))
theorem bs_:MtM X "list.append" dE_:=by
 intro pins s σ H x vs v us Q I rx rv h;obtain⟨l,xs,y,rfl,rfl,hH,hz,q⟩:=h;cases rx;obtain⟨u,rfl,ru⟩:=rv.one;obtain⟨z,its,n,r,hl,e⟩:=I.lstM hH;refine DG F.slot_list_append ⟨_,e,rfl⟩ F.entry_list_append (F.args_list_append_2 _ _) (PySem.list_append l its.toArray n u (by rw [AC];lia)) ⟨e, ?_⟩;refine⟨.non,_,I.lset (its':=its++[u]) hH e (by simp) (r.append (.cons ru .nil)) ?_,rfl,q⟩;rw [AB,BL];lia
def os_:V->List V->Hp->VK->Prop:=fun x vs H Q=>∃l b xs zs,x= .ref l/\vs=[.ref b]/\H l=some (.lst xs)/\H b=some (.lst zs)/\xs.length+zs.length<=sizeLine/\Q .non (upd H l (.lst (xs++zs)))
theorem cF_:MtM X "list.extend" os_:=by
 intro pins s σ H x vs v us Q I rx rv h;obtain⟨l,b,xs,zs,rfl,rfl,hH,hB,hz,q⟩:=h;cases rx;obtain⟨u,rfl,ru⟩:=rv.one;cases ru;obtain⟨z,its,n,r,hl,e⟩:=I.lstM hH;obtain⟨z2,its2,n2,r2,hl2,e2⟩:=I.lstM hB;have hsz:its.toArray.size+its2.toArray.size<=sizeLine:=by rw [AC,AC];lia
 have hlong:¬(!its.toArray.isEmpty&&Builtin.List.listTooLong (its.toArray.size+its2.toArray.size))=true:=by
  rw [iL_ hsz,DD];exact AM
 refine DG F.slot_list_extend ⟨_,e,rfl⟩ F.entry_list_extend (F.args_list_extend_2 _ _)
  (AutoSeq1.list_extend_list_list_0 l its.toArray n b its2.toArray n2 hlong (by rw [AC];lia) (by lia)) ⟨e,e2, ?_⟩
 refine⟨.non,_,I.lset (its':=its++its2) hH e (by simp) (r.append r2) ?_,rfl,q⟩;rw [AB];lia
def sU_:V->List V->Hp->VK->Prop:=fun x vs H Q=>∃l xs y,x= .ref l/\vs=[]/\H l=some (.lst xs)/\xs[xs.length-1]? =some y/\Q y (upd H l (.lst xs.dropLast))
theorem ql_:MtM X "list.pop" sU_:=by
 intro pins s σ H x vs v us Q I rx rv h;obtain⟨l,xs,y,rfl,rfl,hH,hy,q⟩:=h;cases rx;have hus:=rv.zero;subst hus;obtain⟨z,its,n,r,hl,e⟩:=I.lstM hH;obtain⟨u,hu,ru⟩:=r.get hy;have hy':its.toArray[its.toArray.size-1]? =some u:=by
  show its.toArray[its.length-1]? =some u;rw [<-CD,<-hl];exact hu
 refine DG F.slot_list_pop ⟨_,e,rfl⟩ F.entry_list_pop (F.args_list_pop_1 _) (MeetsSeq.list_pop_last l its.toArray n u hy' (by rw [AC];lia)) ⟨e, ?_⟩;refine⟨y,_,I.lset (its':=its.dropLast) hH e ?_ r.dropLast ?_,ru,q⟩
 .show its.toArray.eraseIdxIfInBounds (its.toArray.size-1)=its.dropLast.toArray;rw [AC,List.eraseIdxIfInBounds_toArray,jT_]
 .rw [List.length_dropLast];lia
def sY_:R2:=fun x y H Q=>∃l b xs zs,x= .ref l/\y= .ref b/\H l=some (.lst xs)/\H b=some (.lst zs)/\xs.length+zs.length<=sizeLine/\∀p,H p=none->Q (.ref p) (upd H p (.lst (xs++zs)))
theorem dV_:OpR X (binaryOp .Add) sY_:=by
 intro pins s σ H x y v u Q I rx ry h;obtain⟨l,b,xs,zs,rfl,rfl,hH,hB,hz,q⟩:=h;cases rx;cases ry;obtain⟨z,its,n,r,hl,e⟩:=I.lstM hH;obtain⟨z2,its2,n2,r2,hl2,e2⟩:=I.lstM hB;refine PySem.P.add_list e e2 ?_ (by rw [AC,AC];lia);have ea:its.toArray++its2.toArray=(its++its2).toArray:=by simp
 rw [ea];exact⟨.ref _,_,I.lnew (t':=s.toks) (r.append r2) (by rw [AB];lia),rfl,q _ I.fresh⟩
def sT_:R2:=fun x y H Q=>∃l k xs,x= .ref l/\y= .int k/\H l=some (.lst xs)/\-(2^63)<=k/\k<2^63/\xs.length*k.toNat<=sizeLine/\
 ∀p,H p=none->Q (.ref p) (upd H p (.lst (List.replicate k.toNat xs).flatten))
theorem oV_ {α:Type} (xs:List α) (k:Nat):(List.replicate k xs).flatten.length=k*xs.length:=by
 induction k with
 |zero=>simp
 |succ k ih=>rw [BI,Cf,AB,ih,CA,Nat.add_comm]
theorem qa_:OpR X (binaryOp .Mult) sT_:=by
 intro pins s σ H x y v u Q I rx ry h;obtain⟨l,k,xs,rfl,rfl,hH,h1,h2,hz,q⟩:=h;cases rx;obtain⟨t,rfl⟩:=ry;obtain⟨z,its,n,r,hl,e⟩:=I.lstM hH;have hlen:its.toArray.size*k.toNat<=sizeLine:=by rw [AC,<-hl];exact hz
 have hcap:¬its.toArray.size*k.toNat>(2^63-1)/8:=by
  have:(sizeLine:Nat)<=(2^63-1)/8:=by decide
  lia
 have hfit:¬(!Builtin.List.listFitsIndex k)=true:=by
  rw [fitsIndex_both h1 h2];exact AM
 have hlong:¬Builtin.List.listTooLong (its.toArray.size*k.toNat)=true:=by
  rw [iL_ hlen];exact AM
 have hnew:List.foldl (fun x1 x2=>x1++x2) #[] (List.replicate (if its.toArray.isEmpty=true then 0 else k.toNat) its.toArray)=(List.replicate k.toNat its).flatten.toArray:=by
  have f0:∀m:Nat,List.foldl (fun x1 x2=>x1++x2) #[] (List.replicate m its.toArray)=(List.replicate m its).flatten.toArray:=fun m=>by
   have:=g9_ its m [];rw [List.nil_append] at this;exact this
  rw [f0];cases its with
  |nil=>simp
  |cons a r'=>rw [A9 (by simp)]
 refine wpAny_binaryOp_repeat_ref (T:="list") (U:="int") (by decide) ⟨_,e,rfl⟩ (fun s'=>typeIs_int s' k t) noFill_list_mul F.fills_int_mul F.slot_int_rmul repeat_list F.slot_int_index.lookup
  (DG F.slot_int_rmul (typeIs_int s k t) F.entry_int_rmul (F.args_int_rmul_2 _ _) (int___rmul___int_list k t l its.toArray n)
   ⟨e,rfl,⟨_,e,rfl⟩,DG F.slot_list_mul ⟨_,e,rfl⟩ F.entry_list_mul (F.args_list_mul_2 _ _) (AutoListH.list___mul___list_int_3 l its.toArray n k t hfit hcap hlong) ⟨e, ?_⟩⟩)
 rw [hnew];exact⟨.ref _,_,I.lnew (t':=s.toks) (r.rep k.toNat) (by rw [oV_,Nat.mul_comm];exact hz),rfl,q _ I.fresh⟩
end
section
variable {prog:Program}{w:World}{A:Around}{E:Value->Shared->Prop}{s:Shared}
end
section
variable {X:Cx}
end
end L2
namespace Att
open PySem PySem.W PySem.Calls PyProof.Rows
theorem eS_ {P:Params}{h:Heap}:∀(ns:List Int) (vs:List Value),WellAll P h vs (ns.map WData.int)->IntsAre vs ns:=by
 intro ns;induction ns with
 |nil=>
  intro vs w;rw [D5] at w;cases w;exact .nil
 |cons n ns ih=>
  intro vs w;rw [AO] at w;cases w with
  |cons a b=>
   cases a;exact .cons _ _ (ih _ b)
theorem kv_ {l:OpenLaw}{n:Nat} (hn:l.most=some n) {P:Params}{h:Heap}{args:List WData}{vals:List Value}
  (hpre:l.row.toRowW.claim.pre args=true) (hwl:WellAll P h vals args):
  ∃a vs ns,vals=[Value.ref a]/\args=[WData.list (ns.map WData.int)]/\h.get? a=some {cls:= .type "list",data:= .seq vs.toArray}/\IntsAre vs ns/\ns.length<=n:=by
 have hsh:WShape.hasAll [] args [.list .int]=true:=(pre_splitW hpre).1;have hc:l.pre.holds [] {args:=args}=true:=(pre_splitW hpre).2;obtain⟨d,r,rfl,h1,h2⟩:=hasAllW_cons hsh;obtain rfl:=hasAllW_nil h2;obtain⟨xs,rfl,h3⟩:=hasW_list h1;obtain⟨ns,rfl⟩:=items_int h3;have hlen:ns.length<=n:=by
  unfold OpenLaw.pre at hc;have h4:(WTm.not (.lt (.lit (.int (n:Int))) (.len (.arg 0)))).holds [] {args:=[.list (ns.map .int)]}=true:=by
   have h4:=(holds_andW hc).1;rw [hn] at h4;exact h4
  have h5:=condW_of h4 (w_not (w_lt w_lit (w_len_list (w_arg rfl))));rw [A1] at h5;refine Nat.le_of_not_lt fun q=> ?_;have q':(n:Int)<((ns.length:Nat):Int):=by lia
  first
   |(rw [BC q'] at h5;exact absurd h5 (by decide))
   |(simp at h5;lia)
 cases hwl with
 |cons w1 w2=>
  cases w2;cases w1 with
  |list ho hall=>exact⟨_,_,ns,rfl,rfl,ho,eS_ ns _ hall,hlen⟩
theorem kN_ (l:OpenLaw) (args:List WData):l.row.toRowW.claim.post args (.bool true) args=true:=
 postW_of (r:=l.row.toRowW) (X:=(true==true))
  (show WShape.has [] (.bool true) .bool=true by first|rfl|decide|simp [WShape.has,WShape.arms,WShape.armsAll])
  (show(WTm.eq .res (.lit (.bool true))).value [] {args:=args,res:=some (.bool true),after:=args}=some (.bool (true==true)) from w_eq_bool (w_res rfl) w_lit) rfl
theorem attach_call {l:OpenLaw}{n:Nat}{q:Program}{loose:List Str}{XP:(Str->Option Value)->Heap->Prop}{YP:World->Heap->Prop}{d:DefRec}
  (hn:l.most=some n) (hdf:d.params.defaults=[])
  (call:∀(w:World) (s₀ s₁:Shared) (mg mb:Str->Option Value) (fa:Addr) (o:Obj) (pm cd doc:Value) (a:Addr) (vs:List Value) (ns:List Int),
   Ground q loose [] XP w s₀ mg mb s₁.heap->YP w s₁.heap->
   s₁.heap.get? fa=some o->o.data= .func (docDef d.name d.params d.body d.scope pm cd doc)->s₁.heap.CodeRec cd d.name->mg d.name=some (.ref fa)->
   s₁.heap.get? a=some {cls:= .type "list",data:= .seq vs.toArray}->IntsAre vs ns->ns.length<=n->s₁.gens= #[]->
   codeAny (model l.prog w) callerA (.call (.ref fa) ⟨[.ref a],[]⟩) (fun r s'=>r= .ok (.ret (.bool true))/\OldK s₁.heap s'.heap/\s'.os=s₁.os/\AllBare s'.gens) s₁):
  WalkO q loose XP YP l.row.toRowW d [] (fun f vs=>PySem.call f vs):=by
 intro w s₀ s₁ mg mb G Y fa o pm cd doc dV kV ho hd hcd hD hmg hg args vals as hpre hlay hrd hwl hlo;obtain rfl:dV= .none:=Dflts.none hD hdf;obtain rfl:kV= .none:=Dflts.noKw hD;obtain⟨a,vs,ns,rfl,rfl,hobj,hints,hlen⟩:=kv_ hn hpre hwl;refine enter_call (CV (call w s₀ s₁ mg mb fa o pm cd doc a vs ns G Y ho (fd_plain hd) hcd hmg hobj hints hlen hg) fun r s' hq=> ?_);obtain⟨rfl,h2,h3,h4⟩:=hq;exact⟨.inl ⟨.bool true, .bool true,[],rfl,fun _=>rfl, .bool true,kN_ l _,fun _=>⟨List.Pairwise.nil,fun _ hm=>(nomatch hm)⟩⟩,h2,h3,h4⟩
section
variable {prog:Program}{w:World}{A:Around}{E:Value->Shared->Prop}{s:Shared}{K:Frag}
def ss_ (h:Heap) (L d:Addr):List (Addr×Obj):=(List.range h.objs.size).filterMap fun a=>if a=L\/a=d then none else(h.get? a).map fun o=>(a,o)
end
end Att
namespace L2
open PySem PySem.Spec PyProof.Rows
theorem gz_:∀{vs:List Value}{ns:List Int},IntsAre vs ns->aP_ (ns.map V.int) vs
 |_,_, .nil=> .nil
 |_,_, .cons n t h=> .cons ⟨t,rfl⟩ (gz_ h)
def si_ (H:Hp):Prop:=∀b,H b=none\/∃o xs,H b=some (.frz o (.lst xs))
theorem mR_ {P:Program}{w:World}{K:W.Frag}{mg mb:Str->Option Value}{CX:CXT}{k:Nat}{fa a:Addr}{fd:FuncData}{x:Str}{sp:Sp}{s₁:Shared}{vs:List Value}{ns:List Int}
  (KX:K.In s₁.heap) (hns:s₁.heap.Ns mainGlobals mg) (hb:s₁.heap.Ns builtinsNs mb) (hbb:∀x:Str,x≠"__name__"->mb x=bootBuiltins x) (hlim:s₁.heap.NoLimit) (hg:s₁.gens= #[])
  (ha:s₁.heap.get? a=some {cls:= .type "list",data:= .seq vs.toArray}) (hi:IntsAre vs ns) (hl:ns.length<=sizeLine) (hr:Room k callerA)
  (F:∀base:Heap,K.In base->base.Ns mainGlobals mg->FnOk P w K mg base CX k fa fd [x] sp) (hbind:∀(s:Shared) (u:Value),BindsTo s fd ⟨[u],[]⟩ [(x,u)])
  (hsp:∀H:Hp,si_ H->SqL K H a (ns.map V.int)->sp [.ref a] H (fun v _=>v= .bl true) fun _ _ _=>False)
  (hCX:∀H e s',CX [] H s₁ (fun _ _ _=>False) e s'->False):
  codeAny (model P w) callerA (.call (.ref fa) ⟨[.ref a],[]⟩) (fun r s'=>r= .ok (.ret (.bool true))/\OldK s₁.heap s'.heap/\s'.os=s₁.os/\AllBare s'.gens) s₁:=by
 have rv:=gz_ hi;have lenV:=hi.length;have core:∀H:Hp,si_ H->SqL K H a (ns.map V.int)->HOk P w H s₁.heap->(∀b,H b≠none->b=a)->(H a≠none->K.lookup a=none)->
   codeAny (model P w) callerA (.call (.ref fa) ⟨[.ref a],[]⟩) (fun r s'=>r= .ok (.ret (.bool true))/\OldK s₁.heap s'.heap/\s'.os=s₁.os/\AllBare s'.gens) s₁:=by
  intro H hO hS hok hA hK;have base_of:∀{b:Addr}{o:Obj},s₁.heap.get? b=some o->H b=none->(m1_ s₁.heap H).get? b=some o:=fun e n=>m0_ e n;have noA:∀{b:Addr}{o:Obj}{es:Array DictEntry}{ep:Nat},s₁.heap.get? b=some o->o.data= .dict es ep->H b=none:=fun{b o es ep} e d=>by
   cases q:H b with
   |none=>rfl
   |some u=>
    have e':b=a:=hA b (by rw [q];simp);subst e';rw [ha] at e;cases e;have d':Data.seq vs.toArray _=Data.dict es ep:=d;cases d'
  have nsK:∀{b:Addr}{m:Str->Option Value},s₁.heap.Ns b m->(m1_ s₁.heap H).Ns b m:=fun{b m} ⟨o,es,ep,e,d,r⟩=>⟨o,es,ep,base_of e (noA e d),d,r⟩;have hKb:K.In (m1_ s₁.heap H):=fun b o e=>base_of (KX b o e) (by
   cases q:H b with
   |none=>rfl
   |some u=>
    have e':b=a:=hA b (by rw [q];simp);subst e';rw [hK (by rw [q];simp)] at e;cases e)
  have hM:Mod K mg (m1_ s₁.heap H):=⟨hKb,nsK hns,⟨mb,nsK hb,hbb⟩,let ⟨mc,h1,h2⟩:=hlim;⟨mc,nsK h1,h2⟩⟩;have e0:Env0 P w K mg (m1_ s₁.heap H) callerA [] s₁ H:=⟨rfl,hM,fun b o e=>oM_ e,Nat.le_of_eq (lx_ _ _),trivial,fun b hb=>absurd (show b∈([]:List Addr) from hb) (by simp),hok, .of_eq hg⟩;refine CV ((F _ hKb (nsK hns)).run callerA [] s₁ H ⟨[.ref a],[]⟩ [.ref a] [.ref a] _ _ hr e0 (hbind s₁ (.ref a)) (.cons rfl .nil) (hsp H hO hS)) fun r s' h=> ?_;cases r with
  |error e=>exact(hCX H e s' h).elim
  |ok fl=>
   cases fl with
   |next=>exact False.elim h
   |brk=>exact False.elim h
   |cont=>exact False.elim h
   |ret u=>
    obtain⟨v,H',os,bare,un,hok',r',q⟩:=h;have q':v= .bl true:=q;subst q';obtain rfl:u=Value.bool true:=r';refine⟨rfl,OldK.of_keep fun b o e=> ?_,os,bare⟩;cases q:H b with
    |none=>exact un.keep b o e q (by intro z;exact absurd (show b∈([]:List Addr) from z) (by simp)) (by simp)
    |some u=>
     rcases hO b with z|⟨ob,xs,z⟩
     .rw [q] at z;cases z
     .have z2:=un.frzs b ob _ z;obtain⟨e1,_⟩:=hok b _ z;obtain⟨e2,_⟩:=hok' b _ z2;rw [e] at e1;cases e1;exact e2
 cases hk:K.lookup a with
 |some o=>
  have e:=KX a o hk;rw [ha] at e;cases e;refine core (fun _=>none) (fun _=> .inl rfl) (.inr ⟨_,vs.toArray,_,hk,rfl,rfl,rfl,by rw [AC,lenV];exact hl,by simpa using rv⟩) (fun b u z=>by have z':(none:Option HO)=some u:=z;cases z') (fun b z=>absurd rfl z) fun z=>absurd rfl z
 |none=>
  refine core (fun b=>if b=a then some (.frz {cls:= .type "list",data:= .seq vs.toArray} (.lst (ns.map V.int))) else none) (fun b=> ?_) (.inl (.inr ⟨{cls:= .type "list",data:= .seq vs.toArray},AA rfl⟩)) (fun b u z=> ?_) (fun b z=> ?_) fun _=>hk
  .by_cases hb:b=a
   .exact .inr ⟨_,_,AA hb⟩
   .exact .inl (A9 hb)
  .by_cases hb:b=a
   .have z':=(AA hb).symm.trans z;cases z';subst hb;exact⟨ha,by rw [A1];exact hl,vs,_,rv,ha⟩
   .have z':=(A9 hb).symm.trans z;cases z'
  .by_cases hb:b=a
   .exact hb
   .exact absurd (A9 hb) z
end L2
namespace L2
open PySem PySem.Spec PyProof.Rows
theorem n4_ {l:W.OpenLaw}{n k:Nat}{q:Program}{loose:List Str}{XP:(Str->Option Value)->Heap->Prop}{YP:World->Heap->Prop}{d:DefRec}{K:Params->W.Frag}{CX:World->CXT}{sp:World->Sp}{x:Str}
  (hn:l.most=some n) (hn2:n<=sizeLine) (hdf:d.params.defaults=[]) (hr:Room k callerA)
  (hY:∀(w:World) (h:Heap),YP w h->(K w.params).In h)
  (F:∀(w:World) (mg:Str->Option Value) (fa:Addr) (h:Heap),(K w.params).In h->h.Ns mainGlobals mg->mg d.name=some (.ref fa)->
   ∃fd:FuncData,(∀(s:Shared) (u:Value),BindsTo s fd ⟨[u],[]⟩ [(x,u)])/\
    ∀base:Heap,(K w.params).In base->base.Ns mainGlobals mg->FnOk l.prog w (K w.params) mg base (CX w) k fa fd [x] (sp w))
  (hsp:∀(w:World) (H:Hp) (a:Addr) (ns:List Int),ns.length<=n->si_ H->SqL (K w.params) H a (ns.map V.int)->sp w [.ref a] H (fun v _=>v= .bl true) fun _ _ _=>False)
  (hCX:∀(w:World) (H:Hp) (s:Shared) (e:Value) (s':Shared),CX w [] H s (fun _ _ _=>False) e s'->False):
  W.WalkO q loose XP YP l.row.toRowW d [] (fun f vs=>PySem.call f vs):=by
 refine Att.attach_call hn hdf fun w s₀ s₁ mg mb fa o pm cd doc a vs ns G Y ho hd hcd hmg hobj hints hlen hg=> ?_;have KX:=hY w _ Y;obtain⟨fd,hb,hF⟩:=F w mg fa _ KX G.T.g hmg;exact mR_ KX G.T.g G.T.b G.T.builtins G.T.nolimit hg hobj hints (Az hlen hn2) hr hF hb (fun H hO hS=>hsp w H a ns hlen hO hS) fun H e s'=>hCX w H s₁ e s'
end L2
namespace L2
open PySem PySem.Spec PyProof.Rows
def bR_ (s:Stmt):Arguments:=match s with
 | .FunctionDef _ a _ _ _ _ _ _ _ _=>a
 |_=>{posonlyargs:=[],args:=[],vararg:=none,kwonlyargs:=[],kw_defaults:=[],kwarg:=none,defaults:=[]}
def bd_ (s:Stmt):List Stmt:=match s with
 | .FunctionDef _ _ b _ _ _ _ _ _ _=>b
 |_=>[]
def ag_ (s:Stmt):Scope:=match s with
 | .FunctionDef _ _ _ _ _ _ sc _ _ _=>sc
 |_=>{kind:= .function,names:=[],isGenerator:=false,isCoroutine:=false}
abbrev CX0:CXT:=fun _ _ _ _ _ _=>False
abbrev E0:XK:=fun _ _ _=>False
theorem ar_ {X:Cx}:e3_ CX0 X E0:=fun _ _ _ _ _ _ _ h=>h.elim
structure Fun (K:W.Frag) (x qual:Str) (st:Stmt) (f:Addr) (fd:FuncData):Prop where
 ex:∃(oc:Value) (od:Option Addr) (kV doc pm:Value) (an:Option Addr) (cdv ct:Value) (osl:Array (Option Value)),
  fd=W.fnOf x qual (bR_ st) (bd_ st) (ag_ st) .none kV doc pm an cdv ct/\K.lookup f=some ⟨oc,od, .func fd,osl⟩/\W.codeIn K cdv qual=true
 kp:W.keepIn K (.ref f)=true
section
variable {P:Program}{w:World}{K:W.Frag}{mg:Str->Option Value}{base:Heap}
theorem Fun.ok {x qual:Str}{st:Stmt}{f:Addr}{fd:FuncData}{N ps:List Str}{k:Nat}{sp:Sp} (F:Fun K x qual st f fd) (S:FnScope N ps (ag_ st)) (len:∀vs H Q E,sp vs H Q E->vs.length=ps.length)
  (hbody:∀(cdv:Value) (A:Around) (outer:List Env) (s:Shared) (H:Hp) (vs:List V) (Q:VK) (E:XK),Room k (A.deeper (envOfC qual (ag_ st) s.heap.objs.size f cdv))->sp vs H Q E->
   ∃t,PSs (ih_ CX0 P w K mg base N qual (ag_ st) f cdv A outer s H E).nox (bd_ st) t/\t {nx:=fun _ H'=>Q .non H',rt:=Q} (start N vs) H):FnOk P w K mg base CX0 (k+1) f fd ps sp:=by
 obtain⟨oc,od,kV,doc,pm,an,cdv,ct,osl,rfl,lk,hcd⟩:=F.ex;refine qG_ lk hcd S len fun A outer s H vs Q E hr hsp=> ?_;obtain⟨t,h,q⟩:=hbody cdv A outer s H vs Q E hr hsp;exact⟨t,h.nox,q⟩
theorem Fun.binds {x qual:Str}{st:Stmt}{f:Addr}{fd:FuncData}{ps:List Str} (F:Fun K x qual st f fd)
  (h:∀(kV doc pm:Value) (an:Option Addr) (cdv ct:Value) (us:List Value),us.length=ps.length->bindArgs (W.fnOf x qual (bR_ st) (bd_ st) (ag_ st) .none kV doc pm an cdv ct) ⟨us,[]⟩=pure (ps.zip us)):hx_ K fd ps []:=by
 obtain⟨oc,od,kV,doc,pm,an,cdv,ct,osl,rfl,lk,hcd⟩:=F.ex;exact .all (h kV doc pm an cdv ct)
theorem qF_ {x qual:Str}{st:Stmt}{f:Addr}{oc:Value}{od an:Option Addr}{osl:Array (Option Value)}{kV doc pm cdv ct:Value} (l:K.lookup f=some ⟨oc,od, .func (W.fnOf x qual (bR_ st) (bd_ st) (ag_ st) .none kV doc pm an cdv ct),osl⟩)
  (c:W.codeIn K cdv qual=true) (k:W.keepIn K (.ref f)=true):Fun K x qual st f (W.fnOf x qual (bR_ st) (bd_ st) (ag_ st) .none kV doc pm an cdv ct):=⟨⟨oc,od,kV,doc,pm,an,cdv,ct,osl,rfl,l,c⟩,k⟩
end
theorem mX_ {A:Around}{k:Nat} (hr:Room k A):A.units+1<cLine:=Nat.lt_of_le_of_lt (Nat.add_le_add_left (by decide:1<=64) _) hr.units
theorem au_ {n:Nat} (h:n<=1000):n<sizeLine:=Nat.lt_of_le_of_lt h (by decide)
section
variable {X:Cx}
theorem pv (i:Nat) {x:Str}{pos:Pos} (hN:X.N[i]? =some x:=by rfl) (hv:Vis X.env.scope x:=by first|exact Or.inl rfl|exact Or.inr (Or.inl rfl)|exact Or.inr (Or.inr rfl)) (hd:(x==("__debug__":Str))=false:=by decide)
  (hcd:(x==("__classdict__":Str))=false:=by decide):PE X (.Name x pos) (ob_ i):=p5_ hN hv hd hcd
end
theorem dQ_ {A B:Prop} (h:B):if false=true then A else B:=by
 rw [A9 AM];exact h
theorem d0_ {A B:Prop} (h:A):if true=true then A else B:=by
 rw [AA rfl];exact h
def al_ (H H':Hp):Prop:=∀b o,H b=some o->H' b=some o
theorem al_.refl (H:Hp):al_ H H:=fun _ _ h=>h
theorem al_.trans {H H1 H2:Hp} (a:al_ H H1) (b:al_ H1 H2):al_ H H2:=fun c o h=>b c o (a c o h)
theorem al_.free {H H':Hp} (e:al_ H H') {l:Addr} (h:H' l=Option.none):H l=Option.none:=by
 cases q:H l with
 |none=>rfl
 |some o=>
  rw [e l o q] at h;cases h
theorem al_.seq {K:W.Frag}{H H':Hp}{a:Addr}{xs:List V} (e:al_ H H') (h:SqL K H a xs):SqL K H' a xs:=by
 rcases h with(h|⟨o,h⟩)|h
 .exact .inl (.inl (e _ _ h))
 .exact .inl (.inr ⟨o,e _ _ h⟩)
 .exact .inr h
end L2
set_option maxHeartbeats 4000000
namespace L2
open PySem PySem.Spec PyProof.Rows
section
variable {κ:Type} [DecidableEq κ]
def e4_ (kvs:List (κ×V)) (k:κ):Option V:=(kvs.find? fun kv=>decide (kv.1=k)).map (·.2)
def eb_ (kvs:List (κ×V)) (k:κ) (v:V):List (κ×V):=
 if(kvs.any fun kv=>decide (kv.1=k))=true then kvs.map (fun kv=>if kv.1=k then(kv.1,v) else kv) else kvs++[(k,v)]
theorem db_ {p:κ×V}{r:List (κ×V)}{k:κ} (e:p.1=k):e4_ (p::r) k=some p.2:=by simp [e4_,BS,e]
theorem dc_ {p:κ×V}{r:List (κ×V)}{k:κ} (e:¬p.1=k):e4_ (p::r) k=e4_ r k:=by simp [e4_,BS,e]
theorem fE_ (k:κ):∀kvs:List (κ×V),(kvs.any fun kv=>decide (kv.1=k))=(e4_ kvs k).isSome
 |[]=>rfl
 |p::r=>by
  rw [List.any_cons];by_cases e:p.1=k
  .simp only [db_ e,BC e,Bool.true_or,Option.isSome_some]
  .rw [dc_ e,Ak e,Bool.false_or];exact fE_ k r
theorem c8_ (kvs:List (κ×V)) (k:κ) (v:V):(eb_ kvs k v).length<=kvs.length+1:=by
 unfold eb_;split
 .rw [A1];lia
 .rw [AB,AL,B8];lia
theorem in_.isSome_eq {o:Option V}{u:Option Value} (r:in_ o u):o.isSome=u.isSome:=by
 cases o with
 |none=>cases u with
  |none=>rfl
  |some _=>exact(show False from r).elim
 |some _=>cases u with
  |none=>exact(show False from r).elim
  |some _=>rfl
theorem in_.getD {o:Option V}{u:Option Value}{d:V}{d':Value} (r:in_ o u) (rd:aV_ d d'):aV_ (o.getD d) (u.getD d'):=by
 cases o with
 |none=>cases u with
  |none=>exact rd
  |some _=>exact(show False from r).elim
 |some _=>cases u with
  |none=>exact(show False from r).elim
  |some _=>exact r
theorem KV.val {kvs:List (κ×V)}{vs:List (κ×Value)} (r:KV kvs vs) (k:κ):in_ (e4_ kvs k) (valueAt vs k):=by
 unfold KV at r;induction r with
 |nil=>exact True.intro
 | @cons p q ps qs h t ih=>
  obtain⟨h1,h2⟩:=h;by_cases e:p.1=k
  .have e':q.1=k:=h1.symm.trans e;have b:valueAt (q::qs) k=some q.2:=by simp [valueAt,BS,e']
   rw [db_ e,b];exact h2
  .have e':¬q.1=k:=fun z=>e (h1.trans z);have b:valueAt (q::qs) k=valueAt qs k:=by simp [valueAt,BS,e']
   rw [dc_ e,b];exact ih
theorem KV.any {kvs:List (κ×V)}{vs:List (κ×Value)} (r:KV kvs vs) (k:κ):(kvs.any fun kv=>decide (kv.1=k))=vs.any fun kv=>decide (kv.1=k):=by
 unfold KV at r;induction r with
 |nil=>rfl
 |cons h t ih=>rw [List.any_cons,List.any_cons,ih,h.1]
theorem KV.repl {kvs:List (κ×V)}{vs:List (κ×Value)} (r:KV kvs vs) (k:κ) {y:V}{u:Value} (ry:aV_ y u):
  KV (kvs.map fun kv=>if kv.1=k then(kv.1,y) else kv) (vs.map fun kv=>if kv.1=k then(kv.1,u) else kv):=by
 unfold KV at r⊢;induction r with
 |nil=>exact .nil
 | @cons p q ps qs h t ih=>
  rw [AO,AO];refine .cons ?_ ih;obtain⟨h1,h2⟩:=h;by_cases e:p.1=k
  .rw [AA e,AA (h1.symm.trans e)];exact⟨h1,ry⟩
  .rw [A9 e,A9 (fun z=>e (h1.trans z))];exact⟨h1,h2⟩
theorem KV.put {kvs:List (κ×V)}{vs:List (κ×Value)} (r:KV kvs vs) (k:κ) {y:V}{u:Value} (ry:aV_ y u):KV (eb_ kvs k y) (stored vs k u):=by
 unfold eb_ stored;rw [r.any k];by_cases e:(vs.any fun kv=>decide (kv.1=k))=true
 .rw [AA e,AA e];exact r.repl k ry
 .rw [A9 e,A9 e];exact Paired.snoc r ⟨rfl,ry⟩
theorem KV.length {kvs:List (κ×V)}{vs:List (κ×Value)} (r:KV kvs vs):kvs.length=vs.length:=Bs r
end
theorem mU_ {P:Program}{w:World}{k:Key}{u:Value} (r:aV_ (kV k) u):(a3_ P w).is k u=true:=by
 cases k with
 |inl i=>obtain⟨t,e⟩:=(show∃t,u=Value.int i t from r);subst e;exact h4_ P w i t
 |inr x=>obtain⟨t,e⟩:=(show∃t,u=Value.str x t from r);subst e;exact h3_ P w x t
theorem g7_ {P:Program}{w:World}:∀{ks:List Key}{us:List Value},aP_ (ks.map kV) us->ItemsAre (a3_ P w) ks us
 |[],_,r=>by rw [D5] at r;cases r;exact .nil
 |k::ks,_,r=>by
  rw [AO] at r;cases r with
  |cons h t=>exact .cons (mU_ h) (g7_ t)
abbrev KT (H:Hp):List (List Key×V)->List (List Key×Addr×Value)->Prop:=Paired fun p q=>p.1=q.1/\H q.2.1=some (.tup (p.1.map kV))/\aV_ p.2 q.2.2
theorem KT.val {H:Hp}{kvs:List (List Key×V)}{xs:List (List Key×Addr×Value)} (r:KT H kvs xs) (k:List Key):in_ (e4_ kvs k) ((atKey xs k).map (·.2)):=by
 induction r with
 |nil=>exact True.intro
 | @cons p q ps qs h t ih=>
  obtain⟨h1,_,h2⟩:=h;by_cases e:p.1=k
  .have e':q.1=k:=h1.symm.trans e;have b:atKey (q::qs) k=some q.2:=by simp [atKey,BS,e']
   rw [db_ e,b];exact h2
  .have e':¬q.1=k:=fun z=>e (h1.trans z);have b:atKey (q::qs) k=atKey qs k:=by simp [atKey,BS,e']
   rw [dc_ e,b];exact ih
theorem KT.repl {H:Hp}{kvs:List (List Key×V)}{xs:List (List Key×Addr×Value)} (r:KT H kvs xs) (k:List Key) {y:V}{u:Value} (ry:aV_ y u):
  KT H (kvs.map fun kv=>if kv.1=k then(kv.1,y) else kv) (xs.map (putAt k u)):=by
 induction r with
 |nil=>exact .nil
 | @cons p q ps qs h t ih=>
  rw [AO,AO];refine .cons ?_ ih;obtain⟨h1,h2,h3⟩:=h;unfold putAt;by_cases e:p.1=k
  .rw [AA e,AA (h1.symm.trans e)];exact⟨h1,h2,ry⟩
  .rw [A9 e,A9 (fun z=>e (h1.trans z))];exact⟨h1,h2,h3⟩
theorem KT.put {H:Hp}{kvs:List (List Key×V)}{xs:List (List Key×Addr×Value)} (r:KT H kvs xs) (k:List Key) {b:Addr}{y:V}{u:Value} (hb:H b=some (.tup (k.map kV))) (ry:aV_ y u):
  KT H (eb_ kvs k y) (storedH xs k b u):=by
 have e:(kvs.any fun kv=>decide (kv.1=k))=(atKey xs k).isSome:=by
  rw [fE_,(r.val k).isSome_eq,Option.isSome_map]
 unfold eb_ storedH;rw [e];by_cases q:(atKey xs k).isSome=true
 .rw [AA q,AA q];exact r.repl k ry
 .rw [A9 q,A9 q];exact Paired.snoc r ⟨rfl,hb,ry⟩
theorem KT.keeps {H H':Hp}{kvs:List (List Key×V)}{xs:List (List Key×Addr×Value)} (r:KT H kvs xs) (ht:∀b ys,H b=some (.tup ys)->H' b=some (.tup ys)):KT H' kvs xs:=
 Paired.mapP r fun _ _ z=>⟨z.1,ht _ _ z.2.1,z.2.2⟩
section
variable {P:Program}{w:World}{H:Hp}{h:Heap}{a:Addr}
theorem mv_ {u:HO} (ok:HOk P w H h) (e:Rd H a u):aH_ P w H h a u:=e.ok ok
theorem lJ_ {kvs:List (Key×V)} (ok:HOk P w H h) (e:Rd H a (.dK kvs)):kvs.length<=sizeLine/\(a==sysModules)=false/\∃vs,KV kvs vs/\h.DictOf (a3_ P w) a vs:=
 show aH_ P w H h a (.dK kvs) from mv_ ok e
theorem se_ {kvs:List (Key×V)} (ok:HOk P w H h) (e:H a=some (.dK kvs)):kvs.length<=sizeLine/\(a==sysModules)=false/\∃vs,KV kvs vs/\h.DictOf (a3_ P w) a vs:=lJ_ ok (.inl e)
theorem g5_ {ks:List Key} (ok:HOk P w H h) (e:H a=some (.tup (ks.map kV))):(tupleKind (a3_ P w)).is h ks a:=by
 obtain⟨_,its,r,o,h1,h2,n,h3⟩:=(show aH_ P w H h a (.tup (ks.map kV)) from ok a _ e);exact⟨o,its.toArray,n,h1,h2,h3,by simpa using g7_ r⟩
theorem lI_ {kvs:List (List Key×V)} (ok:HOk P w H h) (e:Rd H a (.dT kvs)):kvs.length<=sizeLine/\(a==sysModules)=false/\
  ∃xs,KT H kvs xs/\h.DictOfH (tupleKind (a3_ P w)) a xs:=by
 obtain⟨z,y,xs,r,o,es,ep,h1,h2,h3,h4,h5⟩:=(show aH_ P w H h a (.dT kvs) from mv_ ok e);refine⟨z,y,xs,r,o,es,ep,h1,h2,h3,h4,fun x hx=> ?_,h5⟩;have all:∀{l:List (List Key×V)}{m:List (List Key×Addr×Value)},KT H l m->∀x∈m,(tupleKind (a3_ P w)).is h x.1 x.2.1:=by
  intro l m q;induction q with
  |nil=>intro x hx;exact nomatch hx
  | @cons p q ps qs hq t ih=>
   intro x hx;rcases AI.mp hx with e|hx
   .subst e;exact g5_ ok (by rw [<-hq.1];exact hq.2.1)
   .exact ih x hx
 exact all r x hx
theorem qK_ {kvs:List (List Key×V)} (ok:HOk P w H h) (e:H a=some (.dT kvs)):kvs.length<=sizeLine/\(a==sysModules)=false/\
  ∃xs,KT H kvs xs/\h.DictOfH (tupleKind (a3_ P w)) a xs:=lI_ ok (.inl e)
end
def n0_ (H:Hp) (a:Addr) (y:V) (r:Option V):Prop:=
 (∃kvs k,Rd H a (.dK kvs)/\y=kV k/\r=e4_ kvs k)\/∃kvs k b,Rd H a (.dT kvs)/\y= .ref b/\H b=some (.tup (k.map kV))/\r=e4_ kvs k
def q5_ (H:Hp) (a:Addr) (y v:V) (H':Hp):Prop:=
 (∃kvs k,H a=some (.dK kvs)/\y=kV k/\kvs.length<sizeLine/\H'=upd H a (.dK (eb_ kvs k v)))\/
 ∃kvs k b,H a=some (.dT kvs)/\y= .ref b/\H b=some (.tup (k.map kV))/\kvs.length<sizeLine/\H'=upd H a (.dT (eb_ kvs k v))
theorem n0_.t {H:Hp}{a b:Addr}{kvs:List (List Key×V)}{k:List Key} (e:H a=some (.dT kvs)) (eb:H b=some (.tup (k.map kV))):n0_ H a (.ref b) (e4_ kvs k):= .inr ⟨kvs,k,b, .inl e,rfl,eb,rfl⟩
theorem q5_.t {H:Hp}{a b:Addr}{kvs:List (List Key×V)}{k:List Key}{v:V} (e:H a=some (.dT kvs)) (eb:H b=some (.tup (k.map kV))) (hl:kvs.length<sizeLine):
  q5_ H a (.ref b) v (upd H a (.dT (eb_ kvs k v))):= .inr ⟨kvs,k,b,e,rfl,eb,hl,rfl⟩
section
variable {X:Cx}{pins:List (Addr×Obj)}{σ:St}{H:Hp}{s:Shared}{a:Addr}{y v:V}{u r:Value}{o:Option V}{A:Around}{E:Value->Shared->Prop}
theorem Inv.big (I:Inv X pins σ H s):sysModules<s.heap.objs.size:=by
 have h:mainGlobals<s.heap.objs.size:=(I.mod.glob.keeps I.bk).lt;exact Nat.lt_trans (by decide) h
theorem lO_ {Q:Value->Shared->Prop} (hu:A.units+1<cLine) (I:Inv X pins σ H s) (g:n0_ H a y (some v)) (ry:aV_ y u) (h:∀w' s',Inv X pins σ H s'->aV_ v w'->Q w' s'):
  wpAny (model X.prog X.w) A (getItem (.ref a) u) Q E s:=by
 rcases g with⟨kvs,k,e,ey,l⟩|⟨kvs,k,b,e,ey,eb,l⟩
 .subst ey;obtain⟨z,hd,vs,rel,dd⟩:=lJ_ I.hok e;obtain⟨w',hw,rw'⟩:=in_.some_of (v:=v) (o:=valueAt vs k) (by rw [l];exact rel.val k);exact wpAny_getItem_of (mU_ ry) dd.mapOf hw (h w' _ (I.tok _) rw')
 .subst ey;cases (show u=Value.ref b from ry);obtain⟨z,hd,xs,rel,dd⟩:=lI_ I.hok e;obtain⟨w',hw,rw'⟩:=in_.some_of (v:=v) (o:=(atKey xs k).map (·.2)) (by rw [l];exact rel.val k);obtain⟨p,hp,hp2⟩:=A8.mp hw;refine wpAny_getItem_heap (tupleKind_room_in1 hu) (g5_ I.hok eb) dd hp ?_;rw [hp2];exact h w' _ (I.tok _) rw'
theorem eX_ {h':Heap}{t':Nat}{ob:HO} (I:Inv X pins σ H s) (mu:Mut (H a)) (hs:Heap.SameBut a s.heap h') (he:∃q,h'.get? a=some q) (new:aH_ X.prog X.w (upd H a ob) h' a ob):
  Inv X pins σ (upd H a ob) {s with heap:=h',toks:=t'}:=
 I.write (x:=a) (e:=a) mu (.inl rfl) (fun b q hb z=>(hs.2 b hb).trans z) he new
theorem qM_ {P:Program}{w:World}{H':Hp}{h':Heap}{kvs:List (Key×V)}{vs:List (Key×Value)} (z:kvs.length<=sizeLine) (hd:(a==sysModules)=false) (rel:KV kvs vs) (dd:h'.DictOf (a3_ P w) a vs):
  aH_ P w H' h' a (.dK kvs):=⟨z,hd,vs,rel,dd⟩
theorem lN_ {H':Hp}{Q:Unit->Shared->Prop} (hu:A.units+1<cLine) (I:Inv X pins σ H s) (g:q5_ H a y v H') (ry:aV_ y u) (rv:aV_ v r) (h:∀s',Inv X pins σ H' s'->Q () s'):
  wpAny (model X.prog X.w) A (setItem (.ref a) u r) Q E s:=by
 rcases g with⟨kvs,k,e,ey,l,eH⟩|⟨kvs,k,b,e,ey,eb,l,eH⟩
 .subst ey eH;obtain⟨z,hd,vs,rel,dd⟩:=se_ I.hok e;have hz:vs.length<=sizeLine:=by rw [<-rel.length];exact z
  have hl:(eb_ kvs k v).length<=sizeLine:=by have:=c8_ kvs k v;lia
  refine wpAny_setItem_pairs (hsz:=hz) (mU_ ry) dd fun h' dd' hs=>h _ ?_;have he:∃q,h'.get? a=some q:=let ⟨q,_,_,hq,_⟩:=dd';⟨q,hq⟩;exact eX_ I (by rw [e];exact True.intro) hs he (qM_ hl hd (rel.put k rv) dd')
 .subst ey eH;cases (show u=Value.ref b from ry);obtain⟨z,hd,xs,rel,dd⟩:=qK_ I.hok e;have hz:xs.length<=sizeLine:=by rw [<-Bs rel];exact z
  have hl:(eb_ kvs k v).length<=sizeLine:=by have:=c8_ kvs k v;lia
  refine wpAny_setItem_heap (hsz:=hz) (tupleKind_room_in1 hu) (g5_ I.hok eb) dd fun h' dd' hs=>h _ ?_;obtain⟨q,es,ep,hq,h2,h3,h4,_,h5⟩:=dd';refine eX_ I (by rw [e];exact True.intro) hs ⟨q,hq⟩ ⟨hl,hd,_,(rel.put k eb rv).keeps fun c ys ec=> ?_,q,es,ep,hq,h2,h3,h4,h5⟩;rw [ak_ (oQ_ ec e (fun z=>nomatch z))];exact ec
end
section
variable {X:Cx}{pins:List (Addr×Obj)}{σ:St}{H:Hp}{s:Shared}{a:Addr}{kvs:List (Key×V)}{k:Key}{u:Value}{A:Around}{E:Value->Shared->Prop}
end
def rb_ (i:Expr):Prop:=∀ov iv,subscripted i false ov iv=operate [ov,iv] (getItem ov iv)
theorem hJ_ {prog:Program}{w:World}{A:Around}{E:Value->Shared->Prop}{s:Shared}{env:Env}{value slice:Expr}{pos:Pos}{T id:String}{Q:Value->Shared->Prop}
  (hl:typeLookup (.type T) "__getitem__"=pure (some (.builtin id))) (hs:rb_ slice)
  (h:wpAny (model prog w) A (eval value env) (fun o s₁=>wpAny (model prog w) A (eval slice env) (fun i s₂=>s₂.TypeIs o T/\wpAny (model prog w) A (getItem o i) Q E s₂) E s₁) E s):
  wpAny (model prog w) A (eval (.Subscript value slice pos) env) Q E s:=by
 refine Subscript_ (BG h (fun o s₁ h₁=>BG h₁ (fun i s₂ h₂=> ?_) fun _ _ x=>x) fun _ _ x=>x);obtain⟨hT,h₂⟩:=h₂;unfold subscriptTail;refine A0 ?_;rw [getitemInPython_of_ne hT.not_modules];refine A0 (CI hT hl ?_);have fin:wpAny (model prog w) A (subscripted slice false o i) (fun r s₃=>wpAny (model prog w) A (letTemporaryGo value o r>>=fun _=>pure r) Q E s₃) E s₂:=by
  rw [hs o i];exact wpAny_operating (BG h₂ (fun r s₃ h₃=>A0 (wpAny_letTemporaryGo (A2 h₃))) fun _ _ x=>x)
 first
  |exact A2 (A0 fin)
  |exact A0 (A2 (A0 fin))
  |exact A0 fin
theorem ig_ {X:Cx}{pins:List (Addr×Obj)}{σ:St}{H:Hp}{s:Shared}{a:Addr}{y:V}{o:Option V} (I:Inv X pins σ H s) (g:n0_ H a y o):s.TypeIs (.ref a) "dict":=by
 rcases g with⟨kvs,k,e,_,_⟩|⟨kvs,k,b,e,_,_,_⟩
 .obtain⟨_,_,vs,_,dd⟩:=lJ_ I.hok e;exact dd.typeIs
 .obtain⟨_,_,xs,_,dd⟩:=lI_ I.hok e;exact dd.typeIs
def rs_ (td ty:TE):TE:=fun σ H Q=>td σ H fun x H1=>ty σ H1 fun y H2=>∃a v,x= .ref a/\n0_ H2 a y (some v)/\Q v H2
def rT_ (td ty tv:TE):TS:=fun D σ H=>tv σ H fun v H1=>td σ H1 fun x H2=>ty σ H2 fun y H3=>∃a H4,x= .ref a/\q5_ H3 a y v H4/\D.nx σ H4
section
variable {X:Cx}{o i e value:Expr}{pos pos' tpos:Pos}{td ty tv:TE}
theorem oG_ (hu:X.A.units+1<cLine) (ho:PE X o td) (hi:PE X i ty) (hs:rb_ i):PE X (.Subscript o i pos) (rs_ td ty):=by
 intro pins s σ H Q I h;refine hJ_ PySem.F.slot_dict_getitem.lookup hs (thn (ho pins s σ H _ I h) fun u s1 ⟨x,H1,I1,rx,q1⟩=>thn (hi pins s1 σ H1 _ I1 q1) fun iv s2 ⟨y,H2,I2,ry,a,v,ex,g,q2⟩=> ?_);subst ex;obtain rfl:u=Value.ref a:=rx;exact⟨ig_ I2 g,lO_ hu I2 g ry fun w' s3 I3 rw'=>⟨v,H2,I3,rw',q2⟩⟩
theorem ow_ (hu:X.A.units+1<cLine) (ho:PE X o td) (hi:PE X i ty) (hv:PE X value tv) (hs:swapsWith value (some (.Subscript o i pos')) pos.line X.env=pure false):
  PS X (.Assign [.Subscript o i pos'] value pos) (rT_ td ty tv):=by
 intro pins s σ H D I h;refine wpAny_Assign_Subscript (thn (hv pins s σ H _ I h) fun r s1 ⟨v,H1,I1,rv,q1⟩=>thn (ho pins s1 σ H1 _ I1 q1) fun u s2 ⟨x,H2,I2,rx,q2⟩=>thn (hi pins s2 σ H2 _ I2 q2) fun iv s3 ⟨y,H3,I3,ry,a,H4,ex,g,q3⟩=> ?_) hs;subst ex;obtain rfl:u=Value.ref a:=rx;exact lN_ hu I3 g ry rv fun s4 I4=>⟨σ,H4,I4,q3⟩
end
theorem m8_ {P:Program}{w:World}{H:Hp} (h:Heap) (hb:sysModules<h.objs.size):aH_ P w H (h.push {cls:= .type "dict",data:= .dict #[]}) h.objs.size (.dK []):=
 ⟨AK _,CP.mpr (D3 (AJ hb)),[], .nil,Heap.DictOf.new h⟩
theorem ji_ {P:Program}{w:World}{H:Hp} (h:Heap) (hb:sysModules<h.objs.size):aH_ P w H (h.push {cls:= .type "dict",data:= .dict #[]}) h.objs.size (.dT []):=
 ⟨AK _,CP.mpr (D3 (AJ hb)),[], .nil,_, #[],0,AE _ rfl,⟨rfl,rfl,rfl⟩,rfl,rfl,List.nodup_nil⟩
def pG_:TE:=fun _ H Q=>∀p,H p=none->Q (.ref p) (upd H p (.dK []))
def pF_:TE:=fun _ H Q=>∀p,H p=none->Q (.ref p) (upd H p (.dT []))
section
variable {X:Cx}{pos:Pos}
theorem mA_:PE X (.Dict [] [] pos) pG_:=fun pins s σ H Q I h=>
 wpAny_Dict_empty ⟨.ref s.heap.objs.size,_,I.laid (a:=s.heap.objs.size) (o:= .dK []) (t':=s.toks) (fun _ _ q=>A4 _ q) (A7 _) (m8_ s.heap I.big),rfl,h _ (I.hok.fresh (A7 _))⟩
theorem mz_:PE X (.Dict [] [] pos) pF_:=fun pins s σ H Q I h=>
 wpAny_Dict_empty ⟨.ref s.heap.objs.size,_,I.laid (a:=s.heap.objs.size) (o:= .dT []) (t':=s.toks) (fun _ _ q=>A4 _ q) (A7 _) (ji_ s.heap I.big),rfl,h _ (I.hok.fresh (A7 _))⟩
end
structure M2 (X:Cx) (o:Expr) (m:Str) (apos:Pos) (e f:Expr) (cpos:Pos):Prop where
 base:attributeBase o m X.env (eval o X.env)=eval o X.env
 few:((backTo cpos (starEach [e,f] X.env)).all (fun x=> !x.1)&&(backToKw cpos (keywordEach [] X.env)).all (fun x=>x.1.isSome)
  &&decide (([e,f]:List Expr).length+([]:List Keyword).length+(if([]:List Keyword).isEmpty then 0 else 1)<30))=true
 line:(apos.endLine==cpos.line)=true
 trees:backTo cpos (starEach [e,f] X.env)=[(false,eval e X.env),(false,eval f X.env)]
def IsD (H:Hp) (a:Addr):Prop:=(∃kvs,Rd H a (.dK kvs))\/∃kvs,Rd H a (.dT kvs)
theorem nI_ {X:Cx}{pins:List (Addr×Obj)}{σ:St}{H:Hp}{s:Shared}{a:Addr} (I:Inv X pins σ H s) (d:IsD H a):
  s.TypeIs (.ref a) "dict"/\(∀b,Value.ref a= .ref b->∃ob,s.heap.get? b=some ob/\ob.dict=none)/\(a==sysModules)=false:=by
 rcases d with⟨kvs,e⟩|⟨kvs,e⟩
 .obtain⟨_,hd,vs,_,dd⟩:=lJ_ I.hok e;refine⟨dd.typeIs,fun b q=> ?_,hd⟩;cases q;obtain⟨ob,_,_,h1,h2,_⟩:=dd;exact⟨ob,h1,h2.2.1⟩
 .obtain⟨_,hd,xs,_,dd⟩:=lI_ I.hok e;refine⟨dd.typeIs,fun b q=> ?_,hd⟩;cases q;obtain⟨ob,_,_,h1,h2,_⟩:=dd;exact⟨ob,h1,h2.2.1⟩
section
variable {X:Cx}{pins:List (Addr×Obj)}{σ:St}{H:Hp}{s:Shared}{a:Addr}{y d:V}{u r:Value}{o:Option V}{A:Around}{E:Value->Shared->Prop}
theorem qN_ {Q:Value->Shared->Prop} (hu:A.units+1<cLine) (I:Inv X pins σ H s) (g:n0_ H a y o) (ry:aV_ y u) (rd:aV_ d r) (h:∀w' s',Inv X pins σ H s'->aV_ (o.getD d) w'->Q w' s'):
  wpAny (model X.prog X.w) A (call (.builtin "dict.get") [.ref a,u,r]) Q E s:=by
 rcases g with⟨kvs,k,e,ey,l⟩|⟨kvs,k,b,e,ey,eb,l⟩
 .subst ey;obtain⟨z,hd,vs,rel,dd⟩:=lJ_ I.hok e;refine call_meetsIn PySem.F.slot_dict_get dd.typeIs PySem.F.entry_dict_get (PySem.F.args_dict_get_3 _ _ _) (meets_dict_get_default (a3_ X.prog X.w) a (mU_ ry) hd r) ⟨_,dd.mapOf,h _ _ (I.tok _) ?_⟩;rw [l];exact(rel.val k).getD rd
 .subst ey;cases (show u=Value.ref b from ry);obtain⟨z,hd,xs,rel,dd⟩:=lI_ I.hok e;refine call_meetsIn PySem.F.slot_dict_get dd.typeIs PySem.F.entry_dict_get (PySem.F.args_dict_get_3 _ _ _) (meetsH_dict_get_default (tupleKind (a3_ X.prog X.w)) a b hd r) ⟨tupleKind_room_in1 hu,k,xs,g5_ I.hok eb,dd,h _ _ (I.tok _) ?_⟩;rw [l];exact(rel.val k).getD rd
end
def pI_ (td ty tx:TE):TE:=fun σ H Q=>td σ H fun x H1=>∃a,x= .ref a/\IsD H1 a/\ty σ H1 fun y H2=>tx σ H2 fun z H3=>∃o,n0_ H3 a y o/\Q (o.getD z) H3
section
variable {X:Cx}{o e f:Expr}{apos cpos:Pos}{td ty tx:TE}
theorem mD_ (hu:X.A.units+1<cLine) (ho:PE X o td) (he:PE X e ty) (hf:PE X f tx) (m:M2 X o "get" apos e f cpos):PE X (.Call (.Attribute o "get" apos) [e,f] [] cpos) (pI_ td ty tx):=by
 intro pins s σ H Q I h;refine wpAny_Call_method m.base m.few m.line PySem.F.plainAttrs_dict PySem.F.slot_dict_get PySem.F.type_dict_get (thn (ho pins s σ H _ I h) fun u s1 ⟨x,H1,I1,rx,a,ex,d,q1⟩=> ?_);subst ex;obtain rfl:u=Value.ref a:=rx;obtain⟨t1,t2,_⟩:=nI_ I1 d;refine⟨t1,t2, ?_⟩;rw [m.trees];refine Cw rfl (Calls.evalArgs_plain (Cm (thn (he pins s1 σ H1 _ I1 q1) fun iv s2 ⟨y,H2,I2,ry,q2⟩=>
  Cm (thn (hf pins s2 σ H2 _ I2 q2) fun fv s3 ⟨z,H3,I3,rz,ov,g,q3⟩=>Calls.spliced_nil ?_))))
 exact qN_ hu I3 g ry rz fun w' s4 I4 rw'=>⟨_,H3,I4,rw',q3⟩
end
section
variable {X:Cx}{pins:List (Addr×Obj)}{σ:St}{H:Hp}{s:Shared}{a:Addr}{kvs:List (Key×V)}{A:Around}{E:Value->Shared->Prop}
end
section
variable {X:Cx}{pins:List (Addr×Obj)}{σ:St}{H:Hp}{s:Shared}{a:Addr}{y:V}{u:Value}{A:Around}{E:Value->Shared->Prop}
end
end L2
namespace L2
open PySem PySem.Spec PyProof.Rows
section
variable {X:Cx}{pos:Pos}{a b c d:Expr}{ta tb tc td:TE}
theorem dw_:b8_ X (.builtin "isinstance") (fun xs H Q=>∃x n t b,xs=[x, .ty n]/\TyOf X.K H x t/\W.kitOne X.K t (.type n)=some b/\Q (.bl b) H):=by
 intro pins s σ H xs us Q I r h;obtain⟨x,n,t,b,rfl,ty,e,q⟩:=h;obtain⟨u,w',rfl,ru,rw'⟩:=kd_ r;obtain rfl:w'=Value.type n:=rw';exact lq_ I ru ty e fun tk=>⟨.bl b,H,I.tok tk,rfl,q⟩
end
section
open PySem.W
variable {K:Frag}
theorem iW_ {t:String}:kitOne K (.type t) (.type t)=some true:=by
 unfold kitOne;rw [AA (by simp)]
theorem fr_ {t c:String}{b:Bool} (h1:(Value.type t==Value.type c)=false) (h2:kitMeta c=true) (h3:(fastBuiltinMro t).map (·.contains (Value.type c))=some b):kitOne K (.type t) (.type c)=some b:=by
 unfold kitOne;rw [A9 (by rw [h1];decide)];unfold kitCls;show(if kitMeta c=true then subIn K (.type t) (.type c) else none)=some b;rw [AA h2];exact h3
theorem g3_:kitOne K (.type "int") (.type "bool")=some false:=fr_ (by ac_nf) (by ac_nf) (by ac_nf)
theorem g4_:kitOne K (.type "bool") (.type "int")=some true:=fr_ (by ac_nf) (by ac_nf) (by ac_nf)
end
theorem ee_ {c A B:Prop} [Decidable c] (h1:c->A) (h2:¬c->B):if decide c=true then A else B:=by
 by_cases h:c
 .rw [AA (BC h)];exact h1 h
 .rw [A9 (by rw [Ak h];decide)];exact h2 h
theorem r5_ {c A B:Prop} [Decidable c] (h1:¬c->A) (h2:c->B):if(!decide c)=true then A else B:=by
 by_cases h:c
 .rw [A9 (by rw [BC h];decide)];exact h2 h
 .rw [AA (by rw [Ak h];rfl)];exact h1 h
theorem gw_ {A B:Prop}{i j:Int} (h1:i=j->A) (h2:i≠j->B):if decide (V.int i=V.int j)=true then A else B:=ee_ (fun h=>h1 (V.int.inj h)) fun h=>h2 fun e=>h (Be V.int e)
theorem qz_ {A B:Prop}{i j:Int} (h1:i≠j->A) (h2:i=j->B):if(!decide (V.int i=V.int j))=true then A else B:=r5_ (fun h=>h1 fun e=>h (Be V.int e)) fun h=>h2 (V.int.inj h)
theorem al_.put {H H1:Hp}{l:Addr}{o:HO} (s:al_ H H1) (n:H l=none):al_ H (upd H1 l o):=fun b u e=>by
 rw [ak_ (aC_ e n)];exact s b u e
theorem al_.new {H:Hp}{l:Addr}{o:HO} (n:H l=none):al_ H (upd H l o):=(al_.refl H).put n
end L2
namespace L2
open PySem PySem.Spec PyProof.Rows
theorem lQ_ {prog:Program}{w:World}{A:Around}{R:Result->Shared->Prop}{s:Shared}{elt target iter:Expr}{ifs:List Expr}{scope:Scope}{pos:Pos}{it acc:Value}{env:Env} (I:Nat->Shared->Prop)
  (turn:∀n s,I n s->wpAny (model prog w) A (pyNext it) (fun r s₁=>match r with
   |none=>R (.ok .next) s₁
   |some v=>wpAny (model prog w) A (letOwnedTupleGo target it v) (fun _ s₁'=>wpAny (model prog w) A (assign target env v) (fun _ s₂=>
     wpAny (model prog w) A (forIn ifs true fun c r=>if r=true then do let ok<-isTrue c env (eval c env);pure (ForInStep.yield ok) else pure (ForInStep.yield r)) (fun ok s₃=>
      if ok=true then wpAny (model prog w) A (eval elt env) (fun x s₄=>
       wpAny (model prog w) A (call (.builtin "list.append") [acc,x]) (fun _ s₅=>∃m,m<n/\I m s₅) (notedBy (model prog w) A env fun e s'=>R (.error e) s') s₄) (notedBy (model prog w) A env fun e s'=>R (.error e) s') s₃
      else∃m,m<n/\I m s₃) (notedBy (model prog w) A env fun e s'=>R (.error e) s') s₂) (notedBy (model prog w) A env fun e s'=>R (.error e) s') s₁') (notedBy (model prog w) A env fun e s'=>R (.error e) s') s₁) (notedBy (model prog w) A env fun e s'=>R (.error e) s') s)
  (n:Nat) (h:I n s):
  codeAny (model prog w) A (.compLoop (.ListComp elt [⟨target,iter,ifs,0⟩] scope pos) 0 it acc env) R s:=by
 refine codeAny_loop rfl I (fun n s hI=> ?_) n h;show wpAny _ A ((compTurn (.ListComp elt [⟨target,iter,ifs,0⟩] scope pos) 0 it acc env).onRaise (fun x=>do noteFrame x env;theTreesLotGoes x)) _ _ s;refine wpAny_noted ?_;rw [compTurn_list];refine A0 (wpAny_standAt (A0 (BG (turn n s hI) (fun r s₁ h₁=> ?_) fun _ _ h'=>h')));cases r with
 |none=>exact A2 h₁
 |some v=>
  refine A0 (BG h₁ (fun _ s₁' h₁'=>A0 (BG h₁' (fun _ s₂ h₂=>A0 (BG h₂ (fun ok s₃ h₃=> ?_) fun _ _ h'=>h')) fun _ _ h'=>h')) fun _ _ h'=>h');cases ok with
  |false=>exact A2 ⟨rfl,h₃⟩
  |true=>
   exact A0 (A0 (BG h₃ (fun x s₄ h₄=>A0 (BG h₄ (fun _ s₅ h₅=>A2 (A2 ⟨rfl,h₅⟩)) fun _ _ h'=>h')) fun _ _ h'=>h'))
def ij_ (env:Env):List (Str×NameKind)->List (Str×Addr)->List (Str×Addr)
 |[],cs=>cs
 |(n,k)::r,cs=>ij_ env r (if k= .free then(n,(env.cells.lookup n).getD 0)::cs else cs)
theorem gp_ {env:Env}:∀(ns:List (Str×NameKind)) (cs:List (Str×Addr)),(∀y∈ns,y.2= .free->∃c,env.cells.lookup y.1=some c)->
  (forIn ns cs fun(x:Str×NameKind) (r:List (Str×Addr))=>(if(x.2== .free)=true then do let c<-cellOf env x.1;pure (ForInStep.yield ((x.1,c)::r)) else pure (ForInStep.yield r):Sem (ForInStep (List (Str×Addr)))))=(pure (ij_ env ns cs):Sem _)
 |[],cs,_=>rfl
 |(n,k)::r,cs,h=>by
  have hr:=fun y hy=>h y (AR _ hy);by_cases hk:k= .free
  .obtain⟨c,hc⟩:=h (n,k) AU hk;subst hk;rw [List.forIn_cons];have e:cellOf env n=pure c:=by unfold cellOf;rw [hc]
   simp only [beq_self_eq_true,Bz,e,pure_bind];rw [gp_ r _ hr];show _=pure (ij_ env r (if NameKind.free=NameKind.free then(n,(env.cells.lookup n).getD 0)::cs else cs));rw [AA rfl,show env.cells.lookup n=some c from hc];rfl
  .have hb:(k==NameKind.free)=false:=by simpa using hk
   rw [List.forIn_cons];simp only [hb,AF,Ah,pure_bind];rw [gp_ r _ hr];show _=pure (ij_ env r (if k=NameKind.free then(n,(env.cells.lookup n).getD 0)::cs else cs));rw [A9 hk]
theorem jY_ {env:Env}{scope:Scope} (h:∀y∈scope.names,y.2= .free->∃c,env.cells.lookup y.1=some c):closureFor scope env=pure (ij_ env scope.names []):=by
 unfold closureFor;have e:=gp_ scope.names [] h;simp only [bind_pure] at e⊢;exact e
theorem e0_ {env:Env}{x:Str}{c:Addr}:∀(ns:List (Str×NameKind)) (cs:List (Str×Addr)),(∀y∈ns,y.2= .free->∃c,env.cells.lookup y.1=some c)->(∀x c,cs.lookup x=some c->env.cells.lookup x=some c)->
  (ij_ env ns cs).lookup x=some c->env.cells.lookup x=some c
 |[],cs,_,hc,e=>hc x c e
 |(n,k)::r,cs,h,hc,e=>by
  unfold ij_ at e;refine e0_ r _ (fun y hy=>h y (AR _ hy)) (fun x' c' e'=> ?_) e;by_cases hk:k= .free
  .rw [AA hk] at e';obtain⟨c0,h0⟩:=h (n,k) AU hk;rw [h0] at e';rw [C7] at e';by_cases q:x'==n
   .rw [q] at e';cases e';rw [Cn.mp q];exact h0
   .have q':(x'==n)=false:=by simpa using q
    rw [q'] at e';exact hc x' c' e'
  .rw [A9 hk] at e';exact hc x' c' e'
theorem hi_ {env:Env}{x:Str}:∀(ns:List (Str×NameKind)) (cs:List (Str×Addr)),(∃c,cs.lookup x=some c)->∃c,(ij_ env ns cs).lookup x=some c
 |[],cs,h=>h
 |(n,k)::r,cs,h=>by
  unfold ij_;refine hi_ r _ ?_;by_cases hk:k= .free
  .rw [AA hk,C7];by_cases q:x==n
   .rw [q];exact⟨_,rfl⟩
   .have q':(x==n)=false:=by simpa using q
    rw [q'];exact h
  .rw [A9 hk];exact h
theorem gq_ {env:Env}{x:Str}:∀(ns:List (Str×NameKind)) (cs:List (Str×Addr)),(x,NameKind.free)∈ns->∃c,(ij_ env ns cs).lookup x=some c
 |(n,k)::r,cs,h=>by
  unfold ij_;rcases AI.mp h with e|e
  .cases e;rw [AA rfl];exact hi_ r _ ⟨_,by rw [C7,beq_self_eq_true]⟩
  .exact gq_ r _ e
def Cx.comp (X:Cx) (scope:Scope) (C:Addr) (N:List Str) (s₀:Shared) (H₀:Hp) (ex:List Addr) (E:Value->Shared->Prop):Cx where
 prog:=X.prog
 w:=X.w
 K:=X.K
 mg:=X.mg
 base:=X.base
 A:=X.A
 N:=N
 s₀:=s₀
 H₀:=H₀
 env:=compEnvC scope (ij_ X.env scope.names []) C X.env
 outer:=X.stack
 stack:=X.stack
 ex:=ex
 fn:=fun _=>false
 calm:=X.calm
 pn:=[]
 xe:=E
def q3_ (X:Cx) (ifs:List Expr) (t:TT):Prop:=
 ∀(pins:List (Addr×Obj)) (s:Shared) (σ:St) (H:Hp) (Q:Bool->Hp->Prop),Inv X pins σ H s->t σ H Q->
  wpAny (model X.prog X.w) X.A (forIn ifs true fun c r=>if r=true then do let ok<-isTrue c X.env (eval c X.env);pure (ForInStep.yield ok) else pure (ForInStep.yield r)) (TP X pins σ Q) X.xe s
def q6_:TT:=fun _ H Q=>Q true H
theorem dj_ {X:Cx}:q3_ X [] q6_:=fun _ _ _ H _ I h=>wpAny_tests_nil ⟨H,I,h⟩
theorem mx_ {X:Cx}{c:Expr}{t:TT} (h:PT X c t):q3_ X [c] t:=fun pins s σ H Q I q=>wpAny_tests_one (h pins s σ H Q I q)
def j4_ (own:Nat) (js:List Nat) (σ:St):St:=List.replicate own none++js.map fun j=>(σ[j]?).getD none
def l4_ (J:It) (own:Nat) (js:List Nat) (g:TG) (ti:TT) (te:TE) (σ:St) (H1:Hp) (acc:Addr) (Q:VK):Prop:=
 ∃Wq:Nat->Nat->Hp->Prop,(∃m,Wq 0 m (upd H1 acc (.lst [])))/\∀i m H2,Wq i m H2->
  (J.stop i H2/\Q (.ref acc) H2)\/(J.go i H2/\∀x H3,J.yld i H2 x H3->g x (j4_ own js σ) H3 fun σ4 H4=>ti σ4 H4 fun b H5=>
   if b=true then te σ4 H5 fun y H6=>dE_ (.ref acc) [y] H6 fun _ H7=>∃m',m'<m/\Wq (i+1) m' H7 else∃m',m'<m/\Wq (i+1) m' H5)
def oe_ (own:Nat) (js:List Nat) (wi:TI) (g:TG) (ti:TT) (te:TE):TE:=fun σ H Q=>wi σ H fun J H1=>∀acc,H1 acc=none->l4_ J own js g ti te σ H1 acc Q
end L2
namespace L2
open PySem PySem.Spec PyProof.Rows
theorem n8_ {α:Type}{t:Sem α}{Q Q':α->Shared->Prop}{M:Model}{A:Around}{E:Value->Shared->Prop}{s:Shared} (h:wpAny M A t Q (fun _ _=>False) s) (hQ:∀a s,Q a s->Q' a s):wpAny M A t Q' E s:=BG h hQ fun _ _ f=>f.elim
theorem cx_ {scope:Scope}{env:Env}{x:Str}:∀{names:List (Str×NameKind)},((names.map fun(n,k)=>if(k==NameKind.free&&env.scope.kind== .function&&env.kindOf n==some .cell) then(n,NameKind.cell) else(n,k)).lookup x=some .cell\/
  (names.map fun(n,k)=>if(k==NameKind.free&&env.scope.kind== .function&&env.kindOf n==some .cell) then(n,NameKind.cell) else(n,k)).lookup x=some .free)->(∀y∈names,y.2≠ .cell)->(x,NameKind.free)∈names
 |[],h,_=>by simp at h
 |(n,k)::r,h,hc=>by
  have hr:∀y∈r,y.2≠ .cell:=fun y hy=>hc y (AR _ hy);have h0:k≠ .cell:=hc (n,k) AU;rw [AO,C7] at h;by_cases hb:(k==NameKind.free&&env.scope.kind== .function&&env.kindOf n==some .cell)=true
  .rw [AA hb] at h;dsimp only at h;by_cases q:x==n
   .have hk:k= .free:=by simp only [AN,Cn] at hb;exact hb.1.1
    rw [Cn.mp q,hk];exact AU
   .have q':(x==n)=false:=by simpa using q
    rw [q'] at h;exact AR _ (cx_ (scope:=scope) h hr)
  .rw [A9 hb] at h;dsimp only at h;by_cases q:x==n
   .rw [q] at h;dsimp only at h;have hk:k= .free:=by
     rcases h with h|h
     .exact absurd (Ac h) h0
     .exact Ac h
    rw [Cn.mp q,hk];exact AU
   .have q':(x==n)=false:=by simpa using q
    rw [q'] at h;exact AR _ (cx_ (scope:=scope) h hr)
def q4_ (own:Nat) (g:TG):Prop:=∀v σ H (Q:St->Hp->Prop),g v σ H Q->g v σ H fun σ' H'=>Q σ' H'/\σ'.length=σ.length/\∀i,own<=i->σ'[i]? =σ[i]?
theorem eB_ {i own:Nat} (h:i<own):q4_ own (d7_ i):=fun v σ H Q q=>⟨q,Ba ..,fun j hj=>by rw [C2 (by lia)]⟩
theorem ik_ (own:Nat) (js:List Nat) (σ:St):(j4_ own js σ).length=own+js.length:=by simp [j4_]
theorem hj_ {own:Nat}{js:List Nat}{σ:St}{i:Nat}{v:V} (h:(j4_ own js σ)[i]? =some (some v)):own<=i/\∃j,js[i-own]? =some j/\σ[j]? =some (some v):=by
 unfold j4_ at h;by_cases hi:i<own
 .rw [Bv (by simpa using hi),Ca,AA hi] at h;cases h
 .rw [BD (by simpa using hi),BM,A6] at h;refine⟨by lia, ?_⟩;cases e:js[i-own]? with
  |none=>rw [e] at h;cases h
  |some j=>
   rw [e] at h;refine⟨j,rfl, ?_⟩;have h':(σ[j]?).getD none=some v:=Ac h;cases e2:σ[j]? with
   |none=>rw [e2] at h';cases h'
   |some o=>rw [e2] at h';exact Be some h'
theorem lR_ {X:Cx}{elt tg iter:Expr}{ifs:List Expr}{scope:Scope}{pos ps:Pos}{N:List Str}{own:Nat}{js:List Nat}{wi:TI}{g:TG}{ti:TT}{te:TE} (hc:X.calm=true)
  (hcell:∀y∈scope.names,y.2≠ .cell) (hkind:scope.kind= .function) (hnames:∀y∈scope.names,y.2= .local->scope.names.lookup y.1=some .local)
  (hfree:∀y∈scope.names,y.2= .free->X.env.kindOf y.1=some .cell\/X.env.kindOf y.1=some .free) (hlen:N.length=own+js.length)
  (hcap:∀(i j:Nat) (x:Str),js[i]? =some j->N[own+i]? =some x->X.N[j]? =some x/\(x,NameKind.free)∈scope.names/\(X.env.kindOf x=some .cell\/X.env.kindOf x=some .free)/\((relabel scope X.env).names.lookup x=some .cell\/(relabel scope X.env).names.lookup x=some .free))
  (hi:PI X tg iter wi) (hg:∀C s₀ H₀ ex,PG (X.comp scope C N s₀ H₀ ex fun _ _=>False) tg g) (ho:q4_ own g) (ht:∀C s₀ H₀ ex,q3_ (X.comp scope C N s₀ H₀ ex fun _ _=>False) ifs ti) (he:∀C s₀ H₀ ex,PE (X.comp scope C N s₀ H₀ ex fun _ _=>False) elt te)
  {pins:List (Addr×Obj)}{s:Shared}{σ:St}{H:Hp}{Q:VK}{use:Option (Value->Sem Unit)}{RQ:Value->Shared->Prop} (I:Inv X pins σ H s) (h:oe_ own js wi g ti te σ H Q)
  (fin:∀(acc C:Addr) (H3:Hp) (s4:Shared) (m:Str->Option Value),Inv X pins σ H3 s4->s4.heap.Ns C m->H3 C=none->C≠X.env.locals->C∉X.fs->X.s₀.heap.objs.size<=C->(∀x c,X.env.cells.lookup x=some c->c≠C)->(∀p∈X.pn++pins,p.1≠C)->
   Q (.ref acc) H3->compPost (model X.prog X.w) X.A X.xe use RQ (.ref acc) C (.ok .next) s4)
  (hs:∀x,foldedSetIterable iter X.env x=pure x:=by intro _;rfl):
  wpAny (model X.prog X.w) X.A (comprehension (.ListComp elt [⟨tg,iter,ifs,0⟩] scope pos) scope X.env ps (newList []) false (eval iter X.env) use) RQ X.xe s:=by
 have hcl:∀y∈scope.names,y.2= .free->∃c,X.env.cells.lookup y.1=some c:=fun y hy hf=>I.ok.has y.1 (hfree y hy hf);refine wpAny_comprehension_free (use:=use) rfl hs (jY_ hcl) hkind hnames (thn (hi pins s σ H _ I h) fun v s1 h1=>thn h1 fun itv s2 h2=> ?_);obtain⟨it,fp,tn,J,H2,e,I2,T,st2,f2,q⟩:=h2;subst e;have nf:H2 s2.heap.objs.size=none:=I2.hok.fresh (A7 _);obtain⟨Wq,⟨m0,w0⟩,turn⟩:=q s2.heap.objs.size nf;refine Aj (wpAny_newFunctionEnv hcell (by intro y hy;simp at hy) (fun h₁ hns₁ hsb₁=> ?_) hkind);dsimp only at hns₁ hsb₁⊢;generalize hP2:s2.heap.push {cls:= .type "list",dict:=none,data:= .seq ([]:List Value).toArray}=P2 at hns₁ hsb₁⊢;have hC:P2.objs.size=s2.heap.objs.size+1:=by rw [<-hP2,Ar]
 have hC1:s2.heap.objs.size<P2.objs.size:=by rw [hC];exact BF _
 have kp:∀b o,s2.heap.get? b=some o->h₁.get? b=some o:=fun b o e=>hsb₁.extBut b o (AJ (Nat.lt_trans (AG e) hC1)) (A4 _ (hP2▸A4 _ e));have hacc:h₁.get? s2.heap.objs.size=some {cls:= .type "list",dict:=none,data:= .seq ([]:List Value).toArray}:=hsb₁.extBut _ _ (AJ hC1) (A4 _ (hP2▸AE _ rfl));have lkc:∀x c,(ij_ X.env scope.names []).lookup x=some c->X.env.cells.lookup x=some c:=fun x c e=>e0_ scope.names [] hcl (fun _ _ z=>by simp at z) e;have cne:∀x c,(ij_ X.env scope.names []).lookup x=some c->c<s2.heap.objs.size/\H2 c=none:=fun x c e=>by
  obtain⟨v,o,ho,hd⟩:=I2.cell x c (lkc x c e);exact⟨AG ho,I2.freeC x c (lkc x c e)⟩
 have fpl:∀b∈fp,b<s2.heap.objs.size:=fun b hb=>by
  obtain⟨o,e,_⟩:=T.obj 0 _ st2 b hb;exact AG e
 have hX:(X.comp scope P2.objs.size N s2 H2 fp fun _ _=>False).Ok:={
  mod:=I.ok.mod
  kind:=hkind
  glob:=I.ok.glob
  blt:=I.ok.blt
  above:=AZ hC1
  inj:=fun x y c a b=>I.ok.inj x y c (lkc x c a) (lkc y c b)
  has:=fun x hx=>gq_ scope.names [] (cx_ (scope:=scope) (env:=X.env) hx hcell)
  cab:=fun x c a _=>by cases (show false=true from a)
  hd:=I.ok.hd
  frames:=I.ok.frames
  stk:= .inl rfl
  exf:=fun b hb=>⟨AJ (Nat.lt_trans (fpl b hb) hC1),fun x c a=>(f2 b hb).2.2.2.2.1 x c (lkc x c a)⟩
  bs:=I2.bs
  bsz:=Az I.ok.bsz I2.sz
  noex:=fun b o e hb=>by
   rcases(f2 b hb).2.2.2.1 with z|z
   .exact I.ok.noex b o e z
   .exact absurd (AX (AX (AG e) I.ok.bsz) z) (Bo _)
  exfs:=fun b hb z=>by
   rcases AI.mp (I2.stkSub b z) with z|z
   .exact(f2 b hb).2.1 z
   .exact(f2 b hb).2.2.1 z
  funs:=I2.stack
  frf:=I2.stkFree}
 have I3:∀tk,Inv (X.comp scope P2.objs.size N s2 H2 fp fun _ _=>False) [] (j4_ own js σ) (upd H2 s2.heap.objs.size (.lst [])) {s2 with heap:=h₁,toks:=tk}:=fun tk=>{
  ok:=hX
  os:=rfl
  bare:=I2.bare
  base:=Un.laid kp (A7 _) nf
  loc:=⟨_,hns₁,fun i x v a b c=>by
   obtain⟨hio,j,hj,hv⟩:=hj_ b;obtain⟨h3,h4,h5,h6⟩:=hcap (i-own) j x hj (by rw [show own+(i-own)=i by lia];exact a);obtain⟨m,hn,hl⟩:=I2.loc;obtain⟨u,ru,lk⟩:=hl j x v h3 hv (.inr h5);refine⟨u,ru, .inr ⟨h6, ?_⟩⟩;rcases lk with⟨z,_⟩|⟨_,c0,z1,z2⟩
   .rcases h5 with h5|h5<;>(rw [h5] at z;cases z)
   .obtain⟨c1,hc1⟩:=gq_ (env:=X.env) scope.names [] h4;have:=lkc x c1 hc1;rw [z1] at this;cases this;obtain⟨o,ho,hd⟩:=z2;exact⟨c0,hc1,o,kp _ _ ho,hd⟩⟩
  cell:=fun x c a=>by
   obtain⟨v,o,ho,hd⟩:=I2.cell x c (lkc x c a);exact⟨v,o,kp _ _ ho,hd⟩
  free:=by
   show upd H2 _ _ P2.objs.size=none;rw [ak_ (BQ hC1)];exact I2.hok.fresh (AZ hC1)
  freeC:=fun x c a=>by
   rw [ak_ (AJ (cne x c a).1)];exact(cne x c a).2
  pin:=fun p hp=>absurd (show p∈([]:List (Addr×Obj)) from hp) (by simp)
  hok:=I2.hok.laid kp (A7 _) ⟨AK _,[],0, .nil,hacc⟩
  len:=by rw [ik_];exact hlen.symm}
 have fr0:∀b∈fp,upd H2 s2.heap.objs.size (.lst []) b=none:=fun b hb=>by
  rw [ak_ (AJ (fpl b hb))];exact(f2 b hb).1
 have st3:tn 0 h₁:=T.keep 0 _ _ st2 fun b _ o e=>kp b o e;have stat:∀{H':Hp},(∀b∈fp,H' b=none)->∀b∈fp,hD_ (X.comp scope P2.objs.size N s2 H2 fp fun _ _=>False) [] H' b:=fun hn b hb=>
  ⟨hn b hb,(hX.exf b hb).1,hX.exfs b hb, .inl hb,fun x c a=>(hX.exf b hb).2 x c a,fun p hp=>absurd (show p∈([]:List (Addr×Obj)) from hp) (by simp)⟩
 have loop:∀s₃:Shared,s₃={s2 with heap:=h₁,toks:=s2.toks+([]:List (Str×Value)).length}->
   codeAny (model X.prog X.w) X.A (.compLoop (.ListComp elt [⟨tg,iter,ifs,0⟩] scope pos) 0 (.ref it) (.ref s2.heap.objs.size) (compEnvC scope (ij_ X.env scope.names []) P2.objs.size X.env))
    (compPost (model X.prog X.w) X.A X.xe use RQ (.ref s2.heap.objs.size) P2.objs.size) s₃:=by
  rintro s₃ rfl;refine lQ_ (fun n s'=>∃i H',Inv (X.comp scope P2.objs.size N s2 H2 fp fun _ _=>False) [] (j4_ own js σ) H' s'/\tn i s'.heap/\(∀b∈fp,H' b=none)/\Wq i n H') ?_ m0 ⟨0,_,I3 _,st3,fr0,w0⟩;rintro n s3 ⟨i,H3,J3,t3,fr3,w3⟩;rcases turn i n H3 w3 with⟨stop,qd⟩|⟨go,step⟩
  .refine n8_ (T.done (X.comp scope P2.objs.size N s2 H2 fp fun _ _=>False) rfl rfl rfl hc i [] s3 _ H3 _ J3 (stat fr3) t3 stop) fun r s4 ⟨hr,J4⟩=> ?_;subst hr;obtain⟨m,hn,_⟩:=J4.loc;have B:Un (frs X.stack) fp H2 H3 s2.heap s4.heap:=J4.base;have I5:Inv X pins σ H3 s4:=I2.call' J4.os B J4.hok J4.bare fun b hb=>by
    obtain⟨a1,a2,a3,a4,a5,a6⟩:=f2 b hb;exact⟨a4,a2,a5,a6⟩
   have hp:=I2.fpOk (H':=H3) (b:=P2.objs.size) (AZ hC1) J4.free;obtain⟨a1,a2,a3,a4,a5,a6⟩:=hp;exact fin s2.heap.objs.size P2.objs.size H3 s4 m I5 hn a1 a2 a3 (Az I2.sz (AZ hC1)) a5 a6 qd
  .refine n8_ (T.item (X.comp scope P2.objs.size N s2 H2 fp fun _ _=>False) rfl rfl rfl hc i [] s3 _ H3 _ J3 (stat fr3) t3 go) fun r s4 ⟨u,hr,h4⟩=> ?_;subst hr;refine n8_ h4 fun _ s5 ⟨x,H5,J5,r5,y5,t5,fr5⟩=> ?_;have J5':=J5.pinned (stat fr5) (T.obj _ _ t5);refine n8_ (hg _ _ _ _ _ s5 _ H5 x u _ J5' r5 (ho _ _ _ _ (step x H5 y5))) fun _ s6 ⟨σ6,H6,J6,q6,hl6,ho6⟩=> ?_;have again:∀{s7:Shared}{H7:Hp},Inv (X.comp scope P2.objs.size N s2 H2 fp fun _ _=>False) ([]++gL_ fp s5.heap) σ6 H7 s7->(∃m',m'<n/\Wq (i+1) m' H7)->
     ∃m,m<n/\∃i H',Inv (X.comp scope P2.objs.size N s2 H2 fp fun _ _=>False) [] (j4_ own js σ) H' s7/\tn i s7.heap/\(∀b∈fp,H' b=none)/\Wq i m H':=fun{s7 H7} J7 z=>by
    obtain⟨m',hm,w7⟩:=z;refine⟨m',hm,i+1,H7,J7.unpinned.weak (by rw [hl6]) (fun k v z=> ?_),T.keep _ _ _ t5 fun b hb o e=>(J7.pin (b,o) (B3 _ (B3 _ (cL_ hb e)))).1,fun b hb=> ?_,w7⟩
    .rw [ho6 k (hj_ z).1];exact z
    .obtain⟨o,e,d⟩:=T.obj _ _ t5 b hb;exact(J7.pin (b,o) (B3 _ (B3 _ (cL_ hb e)))).2.1
   refine n8_ (ht _ _ _ _ _ s6 σ6 H6 _ J6 q6) fun ok s7 ⟨H7,J7,q7⟩=> ?_;cases ok with
   |false=>exact again J7 q7
   |true=>
    refine n8_ (he _ _ _ _ _ s7 σ6 H7 _ J7 q7) fun y s8 ⟨yv,H8,J8,r8,q8⟩=> ?_;exact n8_ (bs_ _ s8 σ6 H8 (.ref s2.heap.objs.size) [yv] (.ref s2.heap.objs.size) [y] _ J8 rfl (.cons r8 .nil) q8) fun _ s9 ⟨_,H9,J9,_,q9⟩=>again J9 q9
 exact codeAny_compStart_list (loop _ rfl) (T.self X.A 0 _ _ _ st3 (loop _ rfl))
theorem oH_ {X:Cx}{elt tg iter:Expr}{ifs:List Expr}{scope:Scope}{pos:Pos}{N:List Str}{own:Nat}{js:List Nat}{wi:TI}{g:TG}{ti:TT}{te:TE} (hc:X.calm=true)
  (hcell:∀y∈scope.names,y.2≠ .cell) (hkind:scope.kind= .function) (hnames:∀y∈scope.names,y.2= .local->scope.names.lookup y.1=some .local)
  (hfree:∀y∈scope.names,y.2= .free->X.env.kindOf y.1=some .cell\/X.env.kindOf y.1=some .free) (hlen:N.length=own+js.length)
  (hcap:∀(i j:Nat) (x:Str),js[i]? =some j->N[own+i]? =some x->X.N[j]? =some x/\(x,NameKind.free)∈scope.names/\(X.env.kindOf x=some .cell\/X.env.kindOf x=some .free)/\((relabel scope X.env).names.lookup x=some .cell\/(relabel scope X.env).names.lookup x=some .free))
  (hi:PI X tg iter wi) (hg:∀C s₀ H₀ ex,PG (X.comp scope C N s₀ H₀ ex fun _ _=>False) tg g) (ho:q4_ own g) (ht:∀C s₀ H₀ ex,q3_ (X.comp scope C N s₀ H₀ ex fun _ _=>False) ifs ti) (he:∀C s₀ H₀ ex,PE (X.comp scope C N s₀ H₀ ex fun _ _=>False) elt te)
  (hs:∀x,foldedSetIterable iter X.env x=pure x:=by intro _;rfl):PE X (.ListComp elt [⟨tg,iter,ifs,0⟩] scope pos) (oe_ own js wi g ti te):=by
 intro pins s σ H Q I h;rw [eval_ListComp];refine lR_ hc hcell hkind hnames hfree hlen hcap hi hg ho ht he I h (use:=none) (fun acc C H3 s4 m I5 hn c1 c2 c3 c4 c5 c6 q=> ?_) hs;refine⟨m,hn,fun h' sb=>⟨.ref acc,H3, ?_,rfl,q⟩⟩;exact I5.turned (t':=s4.toks) (it:=C) (fun b o hb e=>(sb.2 b hb).trans e) c1 c2 (.inr c4) c5 c6
end L2
namespace L2
open PySem PySem.Spec PyProof.Rows
def lT_ (XN:List Str) (sc scope:Scope) (own:Nat) (js:List Nat) (N:List Str):Bool:=
 (scope.names.all fun y=>decide (y.2≠ .cell)&&(decide (y.2≠ .local)||decide (scope.names.lookup y.1=some .local))&&(decide (y.2≠ .free)||decide (sc.names.lookup y.1=some .cell)||decide (sc.names.lookup y.1=some .free)))&&
  decide (scope.kind= .function)&&decide (N.length=own+js.length)&&
  (List.range js.length).all fun i=>match js[i]?,N[own+i]? with
   |some j,some x=>decide (XN[j]? =some x)&&decide (scope.names.lookup x=some .free)&&(decide (sc.names.lookup x=some .cell)||decide (sc.names.lookup x=some .free))
   |_,_=>false
theorem bP_ {env:Env}:∀{names:List (Str×NameKind)}{x:Str},names.lookup x=some .free->
  (names.map fun(n,k)=>if(k==NameKind.free&&env.scope.kind== .function&&env.kindOf n==some .cell) then(n,NameKind.cell) else(n,k)).lookup x=some .cell\/
  (names.map fun(n,k)=>if(k==NameKind.free&&env.scope.kind== .function&&env.kindOf n==some .cell) then(n,NameKind.cell) else(n,k)).lookup x=some .free
 |[],_,h=>by simp at h
 |(n,k)::r,x,h=>by
  have ih:= @bP_ env r x;rw [AO,C7];rw [C7] at h;by_cases hc:(k==NameKind.free&&env.scope.kind== .function&&env.kindOf n==some .cell)=true
  .rw [AA hc];dsimp only;cases hx:x==n with
   |true=>exact .inl rfl
   |false=>
    rw [hx] at h;exact ih h
  .rw [A9 hc];dsimp only;cases hx:x==n with
   |true=>
    rw [hx] at h;exact .inr h
   |false=>
    rw [hx] at h;exact ih h
structure CompOk (XN:List Str) (sc scope:Scope) (own:Nat) (js:List Nat) (N:List Str):Prop where
 cell:∀y∈scope.names,y.2≠ .cell
 names:∀y∈scope.names,y.2= .local->scope.names.lookup y.1=some .local
 free:∀y∈scope.names,y.2= .free->sc.names.lookup y.1=some .cell\/sc.names.lookup y.1=some .free
 kind:scope.kind= .function
 len:N.length=own+js.length
 cap:∀(i j:Nat) (x:Str),js[i]? =some j->N[own+i]? =some x->XN[j]? =some x/\scope.names.lookup x=some .free/\(sc.names.lookup x=some .cell\/sc.names.lookup x=some .free)
theorem lS_ {XN:List Str}{sc scope:Scope}{own:Nat}{js:List Nat}{N:List Str} (h:lT_ XN sc scope own js N=true):CompOk XN sc scope own js N:=by
 unfold lT_ at h;rw [AN,AN,AN] at h;obtain⟨⟨⟨h1,h2⟩,h3⟩,h4⟩:=h;rw [Av] at h1 h4;refine⟨fun y hy=> ?_,fun y hy e=> ?_,fun y hy e=> ?_,At h2,At h3,fun i j x a b=> ?_⟩
 .have:=h1 y hy;rw [AN,AN] at this;exact At this.1.1
 .have:=h1 y hy;rw [AN,AN,Cz] at this;rcases this.1.2 with z|z
  .exact absurd e (At z)
  .exact At z
 .have:=h1 y hy;rw [AN,AN,Cz,Cz,Cz] at this;rcases this.2 with(z|z)|z
  .exact absurd e (At z)
  .exact .inl (At z)
  .exact .inr (At z)
 .have hi:i<js.length:=(AD.mp a).1;have:=h4 i (Af.mpr hi);rw [a,b] at this;dsimp only at this;rw [AN,AN,Cz] at this;exact⟨At this.1.1,At this.1.2,this.2.imp At At⟩
section
variable {X:Cx}{XN:List Str}{sc scope:Scope}{elt tg iter:Expr}{ifs:List Expr}{pos:Pos}{N:List Str}{own:Nat}{js:List Nat}{wi:TI}{g:TG}{ti:TT}{te:TE}
theorem cK_ (hc:X.calm=true) (ok:lT_ XN sc scope own js N=true) (hsc:X.env.scope=sc) (hXN:X.N=XN) (hi:PI X tg iter wi) (hg:∀C s₀ H₀ ex,PG (X.comp scope C N s₀ H₀ ex fun _ _=>False) tg g) (ho:q4_ own g)
  (ht:∀C s₀ H₀ ex,q3_ (X.comp scope C N s₀ H₀ ex fun _ _=>False) ifs ti) (he:∀C s₀ H₀ ex,PE (X.comp scope C N s₀ H₀ ex fun _ _=>False) elt te)
  (hs:∀x,foldedSetIterable iter X.env x=pure x:=by intro _;rfl):PE X (.ListComp elt [⟨tg,iter,ifs,0⟩] scope pos) (oe_ own js wi g ti te):=by
 obtain⟨h1,h2,h3,h4,h5,h6⟩:=lS_ ok;subst hsc hXN;refine oH_ hc h1 h4 h2 h3 h5 (fun i j x a b=> ?_) hi hg ho ht he hs;obtain⟨z1,z2,z3⟩:=h6 i j x a b;exact⟨z1,C6 z2,z3,bP_ z2⟩
end
theorem jV_ {lo:Int}{n:Nat}{own:Nat}{js:List Nat}{g:TG}{ti:TT}{te:TE}{σ:St}{H1:Hp}{acc:Addr}{Q:VK} (Pv:Nat->Hp->Prop) (h0:Pv 0 (upd H1 acc (.lst [])))
  (hs:∀i H2,i<n->Pv i H2->g (.int (lo+i)) (j4_ own js σ) H2 fun σ4 H4=>ti σ4 H4 fun b H5=>if b=true then te σ4 H5 fun y H6=>dE_ (.ref acc) [y] H6 fun _ H7=>Pv (i+1) H7 else Pv (i+1) H5) (hd:∀H2,Pv n H2->Q (.ref acc) H2)
  (mono:∀σ H (R R':St->Hp->Prop) x,(∀σ' H',R σ' H'->R' σ' H')->g x σ H R->g x σ H R') (monoT:∀σ H (R R':Bool->Hp->Prop),(∀b H',R b H'->R' b H')->ti σ H R->ti σ H R') (monoE:∀σ H (R R':VK),(∀v H',R v H'->R' v H')->te σ H R->te σ H R'):
  l4_ (Itr lo n) own js g ti te σ H1 acc Q:=by
 refine⟨fun i m H2=>m=n-i/\i<=n/\Pv i H2,⟨n,by simp,AK _,h0⟩, ?_⟩;rintro i m H2 ⟨rfl,hi,p⟩;by_cases hlt:i<n
 .refine .inr ⟨hlt,fun x H3 y=> ?_⟩;obtain⟨e1,e2⟩:=y;subst e1 e2;refine mono _ _ _ _ _ (fun σ4 H4 q=>monoT _ _ _ _ (fun b H5 q=> ?_) q) (hs i _ hlt p);cases b with
  |true=>
   refine monoE _ _ _ _ (fun v H6 q=> ?_) q;obtain⟨l,xs,y,a1,a2,a3,a4,a5⟩:=q;exact⟨l,xs,y,a1,a2,a3,a4,n-(i+1),by lia,rfl,hlt,a5⟩
  |false=>exact⟨n-(i+1),by lia,rfl,hlt,q⟩
 .have e:i=n:=by lia
  subst e;exact .inl ⟨A7 _,hd H2 p⟩
theorem eZ_ {K:W.Frag}{a:Addr}{xs:List V}{own:Nat}{js:List Nat}{g:TG}{ti:TT}{te:TE}{σ:St}{H1:Hp}{acc:Addr}{Q:VK} (Pv:Nat->Hp->Prop) (h0:Pv 0 (upd H1 acc (.lst []))) (hl:∀i H2,i<=xs.length->Pv i H2->SqL K H2 a xs)
  (hs:∀i x H2,xs[i]? =some x->Pv i H2->g x (j4_ own js σ) H2 fun σ4 H4=>ti σ4 H4 fun b H5=>if b=true then te σ4 H5 fun y H6=>dE_ (.ref acc) [y] H6 fun _ H7=>Pv (i+1) H7 else Pv (i+1) H5) (hd:∀H2,Pv xs.length H2->Q (.ref acc) H2)
  (mono:∀σ H (R R':St->Hp->Prop) x,(∀σ' H',R σ' H'->R' σ' H')->g x σ H R->g x σ H R') (monoT:∀σ H (R R':Bool->Hp->Prop),(∀b H',R b H'->R' b H')->ti σ H R->ti σ H R') (monoE:∀σ H (R R':VK),(∀v H',R v H'->R' v H')->te σ H R->te σ H R'):
  l4_ (Itl K a) own js g ti te σ H1 acc Q:=by
 refine⟨fun i m H2=>m=xs.length-i/\i<=xs.length/\Pv i H2,⟨xs.length,by simp,AK _,h0⟩, ?_⟩;rintro i m H2 ⟨rfl,hi,p⟩;have q:=hl i H2 hi p;by_cases hlt:i<xs.length
 .refine .inr ⟨⟨xs,xs[i],q,by simp [hlt]⟩,fun x H3 y=> ?_⟩;obtain⟨e1,y⟩:=y;subst e1;refine mono _ _ _ _ _ (fun σ4 H4 q=>monoT _ _ _ _ (fun b H5 q=> ?_) q) (hs i x _ (y xs q) p);cases b with
  |true=>
   refine monoE _ _ _ _ (fun v H6 q=> ?_) q;obtain⟨l,xs,y,a1,a2,a3,a4,a5⟩:=q;exact⟨l,xs,y,a1,a2,a3,a4,_,by lia,rfl,hlt,a5⟩
  |false=>exact⟨_,by lia,rfl,hlt,q⟩
 .have e:i=xs.length:=by lia
  subst e;exact .inl ⟨⟨xs,q,A7 _⟩,hd H2 p⟩
theorem eJ_ {i:Nat}:∀(σ:St) (H:Hp) (R R':St->Hp->Prop) (x:V),(∀σ' H',R σ' H'->R' σ' H')->d7_ i x σ H R->d7_ i x σ H R':=fun _ _ _ _ _ k h=>k _ _ h
theorem sl_ {A B:St->Hp->Prop}{i:Nat}{x:V}{σ:St}{H:Hp} (h:A (σ.set i (some x)) H):d7_ i x σ H fun σ4 H4=>q6_ σ4 H4 fun b H5=>if b=true then A σ4 H5 else B σ4 H5:=by
 show if true=true then A (σ.set i (some x)) H else B (σ.set i (some x)) H
 rw [AA rfl];exact h
theorem gf_ {n i:Nat} (h:i<n):ixN n (i:Int)=some i:=by
 unfold ixN;rw [AA (by lia),AA (by lia),Ai]
theorem dr_:∀(σ:St) (H:Hp) (R R':Bool->Hp->Prop),(∀b H',R b H'->R' b H')->q6_ σ H R->q6_ σ H R':=fun _ _ _ _ k h=>k _ _ h
end L2
namespace L2
open PySem PySem.Spec PyProof.Rows
section
variable {X:Cx}{K:W.Frag}
end
end L2
namespace L2
open PySem PySem.Spec PyProof.Rows
inductive EqR (K:W.Frag) (H:Hp):Nat->V->V->Bool->Prop where
 |int (d:Nat) (i j:Int):EqR K H d (.int i) (.int j) (decide (i=j))
 |lists {d:Nat}{a b:Addr}{xs ys:List V} (es:Nat->Bool) (h1:SqL K H a xs) (h2:SqL K H b ys) (hl:xs.length=ys.length) (he:∀(j:Nat) x y,xs[j]? =some x->ys[j]? =some y->EqR K H d x y (es j)):EqR K H (d+1) (.ref a) (.ref b) ((List.range xs.length).all es)
 |lens {d:Nat}{a b:Addr}{xs ys:List V} (h1:SqL K H a xs) (h2:SqL K H b ys) (hl:xs.length≠ys.length):EqR K H (d+1) (.ref a) (.ref b) false
 |tuples {d:Nat}{a b:Addr}{xs ys:List V} (es:Nat->Bool) (h1:SqT K H a xs) (h2:SqT K H b ys) (he:∀(j:Nat) x y,xs[j]? =some x->ys[j]? =some y->EqR K H d x y (es j)):EqR K H (d+1) (.ref a) (.ref b) ((List.range (min xs.length ys.length)).all es&&xs.length==ys.length)
section
variable {X:Cx}{pins:List (Addr×Obj)}{σ:St}{H:Hp}{s:Shared}
theorem EqR.same (I:Inv X pins σ H s) {d:Nat}{x y:V}{e:Bool} (h:EqR X.K H d x y e):x=y->e=true:=by
 induction h with
 |int d i j=>intro q;cases q;simp
 |lists es h1 h2 hl he ih=>
  intro q;cases q;have z:=I.list_inj h1 h2;subst z;rw [Av];intro j hj;rw [Af] at hj;have hx:=A3 hj;exact ih j _ _ hx hx rfl
 |lens h1 h2 hl=>
  intro q;cases q;exact absurd (Be List.length (I.list_inj h1 h2)) hl
 | @tuples d a b xs ys es h1 h2 he ih=>
  intro q;cases q;have z:=I.tuple_inj h1 h2;subst z;rw [AN];refine⟨?_,by simp⟩;rw [Av];intro j hj;rw [Af,Nat.min_self] at hj;have hx:=A3 hj;exact ih j _ _ hx hx rfl
theorem aK_ (A:Around):A.in1.units=A.units+1:=rfl
theorem EqR.at_ (I:Inv X pins σ H s) {d:Nat}{x y:V}{e:Bool} (h:EqR X.K H d x y e):∀{A:Around}{u v:Value},A.units+d<cLine->aV_ x u->aV_ y v->SeqAt.RcAt A s u v e/\SeqAt.RcNeAt A s u v (!e)/\SeqAt.EqAt A s u v e:=by
 induction h with
 |int d i j=>
  intro A u v hu ru rv;obtain⟨t,rfl⟩:=ru;obtain⟨t',rfl⟩:=rv;have e:decide (i=j)=(i==j):=by rw [Bool.beq_eq_decide_eq]
  rw [e];exact⟨SeqAt.RcAt.int_int i t j t',SeqAt.RcNeAt.int_int i t j t',SeqAt.EqAt.int_int i t j t'⟩
 | @lists d a b xs ys es h1 h2 hl he ih=>
  intro A u v hu ru rv;obtain rfl:u=Value.ref a:=ru;obtain rfl:v=Value.ref b:=rv;obtain⟨is,r1,p1,z1⟩:=I.list h1;obtain⟨js,r2,p2,z2⟩:=I.list h2;have l1:=r1.length;have l2:=r2.length;have ln:xs.length=is.toArray.size:=by simpa using l1
  have sz:is.toArray.size=js.toArray.size:=by simp only [AC];lia
  have it:∀j (q1:j<is.toArray.size) (q2:j<js.toArray.size),SeqAt.EqAt A.in1 s is.toArray[j] js.toArray[j] (es j):=fun j q1 q2=>by
   simp only [AC] at q1 q2;have hx:xs[j]? =some xs[j]:=A3 (by lia);have hy:ys[j]? =some ys[j]:=A3 (by lia);obtain⟨u1,e1,ru1⟩:=r1.get hx;obtain⟨u2,e2,ru2⟩:=r2.get hy;have g1:is.toArray[j]=u1:=by
    rw [A3 q1] at e1;simpa using Option.some.inj e1
   have g2:js.toArray[j]=u2:=by
    rw [A3 q2] at e2;simpa using Option.some.inj e2
   rw [g1,g2];exact(ih j _ _ hx hy (by rw [aK_];lia) ru1 ru2).2.2
  rw [ln];have R:=SeqAt.RcAt.lists (A:=A) p1.isList p2.isList sz (by lia) it;refine⟨R,SeqAt.RcNeAt.lists p1.isList p2.isList sz (by lia) it, ?_⟩;by_cases q:a=b
  .subst q;have:=(EqR.lists es h1 h2 hl he).same I rfl;rw [ln] at this;rw [this];exact SeqAt.EqAt.same _
  .exact SeqAt.EqAt.of_refs q R
 | @lens d a b xs ys h1 h2 hl=>
  intro A u v hu ru rv;obtain rfl:u=Value.ref a:=ru;obtain rfl:v=Value.ref b:=rv;obtain⟨is,r1,p1,z1⟩:=I.list h1;obtain⟨js,r2,p2,z2⟩:=I.list h2;have l1:=r1.length;have l2:=r2.length;have sz:(is.toArray.size !=js.toArray.size)=true:=by
   simp only [AC,bne_iff_ne,ne_eq];lia
  have R:=SeqAt.RcAt.lists_lengths (A:=A) p1.isList p2.isList sz (by lia);refine⟨R,SeqAt.RcNeAt.lists_lengths p1.isList p2.isList sz (by lia), ?_⟩;by_cases q:a=b
  .subst q;exact absurd (Be List.length (I.list_inj h1 h2)) hl
  .exact SeqAt.EqAt.of_refs q R
 | @tuples d a b xs ys es h1 h2 he ih=>
  intro A u v hu ru rv;obtain rfl:u=Value.ref a:=ru;obtain rfl:v=Value.ref b:=rv;obtain⟨is,r1,p1,z1⟩:=I.tuple h1;obtain⟨js,r2,p2,z2⟩:=I.tuple h2;have l1:=r1.length;have l2:=r2.length;have ln:xs.length=is.toArray.size:=by simpa using l1
  have ln2:ys.length=js.toArray.size:=by simpa using l2
  have it:∀j (q1:j<is.toArray.size) (q2:j<js.toArray.size),SeqAt.EqAt A.in1 s is.toArray[j] js.toArray[j] (es j):=fun j q1 q2=>by
   simp only [AC] at q1 q2;have hx:xs[j]? =some xs[j]:=A3 (by lia);have hy:ys[j]? =some ys[j]:=A3 (by lia);obtain⟨u1,e1,ru1⟩:=r1.get hx;obtain⟨u2,e2,ru2⟩:=r2.get hy;have g1:is.toArray[j]=u1:=by
    rw [A3 q1] at e1;simpa using Option.some.inj e1
   have g2:js.toArray[j]=u2:=by
    rw [A3 q2] at e2;simpa using Option.some.inj e2
   rw [g1,g2];exact(ih j _ _ hx hy (by rw [aK_];lia) ru1 ru2).2.2
  rw [ln,ln2];have R:=SeqAt.RcAt.tuples (A:=A) (show s.heap.IsTuple a is.toArray from p1) (show s.heap.IsTuple b js.toArray from p2) (by lia) it;refine⟨R,SeqAt.RcNeAt.tuples (show s.heap.IsTuple a is.toArray from p1) (show s.heap.IsTuple b js.toArray from p2) (by lia) it, ?_⟩;by_cases q:a=b
  .subst q;have:=(EqR.tuples es h1 h2 he).same I rfl;rw [ln,ln2] at this;rw [this];exact SeqAt.EqAt.same _
  .exact SeqAt.EqAt.of_refs q R
def sX_ (K:W.Frag) (neg:Bool):R2:=fun x y H Q=>∃d e,EqR K H d x y e/\d<=8/\Q (.bl (if neg then !e else e)) H
theorem qc_ {k:Nat} (hr:Room k X.A):OpR X (compareOp .Eq) (sX_ X.K false):=by
 intro pins s σ H x y v u Q I rx ry h;obtain⟨d,e,r,hd,q⟩:=h;have hu:=hr.un;exact(r.at_ I (A:=X.A) (by lia) rx ry).1 X.prog X.w X.xe _ ⟨.bl e,H,I,rfl,q⟩
theorem ei_ (hc:X.calm=true):b8_ X (.builtin "sum") (fun xs H Q=>∃(p:Addr) (ns:List Int),xs=[.ref p]/\SqL X.K H p (ns.map V.int)/\Q (.int ns.sum) H):=by
 intro pins s σ H xs us Q I r h;obtain⟨p,ns,rfl,hq,q⟩:=h;obtain⟨u,rfl,rx⟩:=fD_ r;cases rx;obtain⟨its,r',pl,hz⟩:=I.list hq;have hi:IntsAre its ns:=ft_ r';obtain⟨ys,e⟩:=hi.allInts.items;have hl:=pl.isList;rw [e] at hl;refine sum_intListG (I.ok.hd hc) hl fun h' tk t' hk=>⟨.int ns.sum,H,I.kept hk,⟨t', ?_⟩,q⟩;have n1:=hi.numsOf;rw [show its=its.toArray.toList from rfl,e,nums_intItems] at n1;rw [preSum_eq,List.take_of_length_le (by simp),n1]
def CDB (_ j:Int):Prop:=j≠0/\j.natAbs<2^512
theorem mI_:OpR X (binaryOp .FloorDiv) (rI CDB fun i j=> .int (i.fdiv j)):=opI fun i j _ _ _ _ _ hc q=>floordiv_int hc.1 q (.inl (PyProof.noPylong_of_log2 (by
 have h0:j.natAbs≠0:=by have:=hc.1;lia
 have:=(Nat.log2_lt h0).mpr hc.2;lia)))
end
end L2
namespace L2
open PySem PySem.Spec PyProof.Rows
section
variable {prog:Program}{w:World}{A:Around}{E:Value->Shared->Prop}{s:Shared}
end
section
variable {X:Cx}{e:Expr}{te:TE}{p1 p2 p3 pos:Pos}
end
end L2
namespace L2
open PySem PySem.Spec PyProof.Rows
def Ite (K:W.Frag) (a:Addr):It:=
 ⟨fun i H=>∃xs x,SqL K H a xs/\xs[i]? =some x,fun i H v H'=>∃x p,(∀xs,SqL K H a xs->xs[i]? =some x)/\v= .ref p/\H p=none/\H'=upd H p (.tup [.int i,x]),fun i H=>∃xs,SqL K H a xs/\xs.length<=i⟩
theorem kh_ {P:Program}{w:World}{K:W.Frag}{elts:List Expr}{k:Nat}{pos:Pos} (a e it:Addr) (hne:e≠it):
  Turn P w K (.Tuple elts k pos) (Ite K a) [e,it] e (fun i h=>(∃old,IsEnum h e it (i:Nat) old)/\h.IsListIter it a i) where
 mem:=by simp
 obj:=fun i h st b hb=>by
  obtain⟨⟨old,h1⟩,o,h2,h3,h4⟩:=st;rcases AI.mp hb with z|z
  .subst z;exact⟨_,h1,fun v y=>by cases y⟩
  .rw [Aq.mp z];exact⟨o,h2,fun v y=>by rw [h4] at y;cases y⟩
 keep:=fun i h h' st kk=>⟨st.1.imp fun old z=>kk e (by simp) _ z,st.2.at fun o z=>kk it (by simp) o z⟩
 item:=by
  intro X hP hw hK hc i pins s σ H E I hf st hg;subst hP hw hK;obtain⟨xs,x,hq,hx⟩:=hg;obtain⟨its,rv,p,hz⟩:=I.list hq;obtain⟨u,hu,ru⟩:=rv.get hx;obtain⟨⟨old,he⟩,hit⟩:=st;have nf:H s.heap.objs.size=none:=I.hok.fresh (A7 _);have ltE:e<s.heap.objs.size:=AG he;refine wpAny_pyNext_enum_item he hit p.isList (x:=u) (by simpa using hu) hne fun h' ho hit' hT hsz hk=>⟨.ref s.heap.objs.size,rfl, ?_⟩;refine wpAny_letOwnedTupleGo_enum ho fun h2 he2 sb=> ?_;have k2:∀b o,b≠e->b≠it->s.heap.get? b=some o->h2.get? b=some o:=fun b o n1 n2 z=>(sb.2 b n1).trans (hk b o n1 n2 z);have hT2:h2.get? s.heap.objs.size=some {cls:= .type "tuple",data:= .seq #[.int i s.toks,u]}:=(sb.2 _ (BQ ltE)).trans hT;have hch:∀b,b∉[e,it]->b≠e/\b≠it:=fun b z=>⟨fun y=>z (by simp [y]),fun y=>z (by simp [y])⟩;refine⟨.ref s.heap.objs.size,upd H s.heap.objs.size (.tup [.int i,x]), ?_,rfl,⟨x,_,fun ys hy=>by rw [I.list_inj hy hq];exact hx,rfl,nf,rfl⟩,⟨⟨u,by simpa using he2⟩,hit'.at fun o z=>(sb.2 it hne.symm).trans z⟩,fun b hb=> ?_⟩
  .refine I.step (s:=s) (h':=h2) (g':=s.gens) (d':=s.drawn) (t':=s.toks+1) (ch:=[e,it]) (fun b hb=> ?_) (fun b o _ _ c z _=>k2 b o (hch b c).1 (hch b c).2 z) (fun b o _ _ c z _=>⟨o.slots,k2 b o (hch b c).1 (hch b c).2 z⟩)
    (fun b o c z n=> ?_) (fun b o c z=>⟨o,k2 b o (hch b c).1 (hch b c).2 z⟩) (fun b ys z=> ?_) (fun b o v z=> ?_) (fun b ps z=>⟨#[], ?_⟩) (fun m hm=> ?_) (fun b v z=> ?_) I.bare
   .obtain⟨a1,a2,a3,a4,a5,a6⟩:=hf b hb;exact⟨a4,a2,a5,a6⟩
   .rw [ak_ (AJ (AG z))];exact n
   .rw [ak_ (aC_ z nf)];exact z
   .rw [ak_ (aC_ z nf)];exact z
   .rw [ak_ (aC_ z nf),z];simp
   .obtain⟨o,es,ep,ho',r⟩:=hm;exact⟨o,es,ep,k2 _ o (fun y=>(hf e (by simp)).2.1 y.symm) (fun y=>(hf it (by simp)).2.1 y.symm) ho',r⟩
   .by_cases hb:b=s.heap.objs.size
    .subst hb;rw [ae_] at z;cases z;exact⟨by show 2<=sizeLine;decide,[.int i s.toks,u], .cons ⟨_,rfl⟩ (.cons ru .nil),⟨_,hT2,rfl,_,rfl⟩⟩
    .rw [ak_ hb] at z;refine(I.hok b v z).stay (fun c o hc y=>k2 c o ?_ ?_ y) (fun c y=> ?_) fun c ys y=> ?_
     .rcases hc with q|q
      .rw [q];exact fun y=>by rw [y,(hf e (by simp)).1] at z;cases z
      .exact fun y=>by rw [y,(hf e (by simp)).1] at q;cases q
     .rcases hc with q|q
      .rw [q];exact fun y=>by rw [y,(hf it (by simp)).1] at z;cases z
      .exact fun y=>by rw [y,(hf it (by simp)).1] at q;cases q
     .rw [ak_ (aC_ y nf)];exact y
     .rw [ak_ (aC_ y nf)];exact y
  .obtain⟨o,z,_⟩:=(show∃o,s.heap.get? b=some o/\True from by
    rcases AI.mp hb with q|q
    .rw [q];exact⟨_,he,trivial⟩
    .rw [Aq.mp q];obtain⟨o,y,_⟩:=hit;exact⟨o,y,trivial⟩)
   rw [ak_ (AJ (AG z))];exact(hf b hb).1
 done:=by
  intro X hP hw hK hc i pins s σ H E I hf st hg;subst hP hw hK;obtain⟨xs,hq,hx⟩:=hg;obtain⟨its,rv,p,hz⟩:=I.list hq;obtain⟨⟨old,he⟩,hit⟩:=st;have hl:=rv.length;obtain⟨f0,f1,f2,f3,f4,f5⟩:=hf it (by simp);exact wpAny_pyNext_enum_end (I.ok.hd hc) he hit p.isList (by simp;lia) fun h' eb=>⟨rfl,I.turned (t':=s.toks) (fun b o hb z=>eb b o hb z) f0 f1 f3 f4 f5⟩
 self:=fun _ _ _ _ _ st h=>let ⟨⟨_,z⟩,_⟩:=st;wpAny_pyIter_enum z h
section
variable {X:Cx}{elts:List Expr}{k:Nat}{tpos p pos:Pos}{e:Expr}{te:TE}
def sa_ (K:W.Frag) (tl:TE):TI:=fun σ H R=>tl σ H fun x H1=>∃a,x= .ref a/\(∃xs,SqL K H1 a xs)/\R (Ite K a) H1
theorem hS_ (hg:Gl X "enumerate") (hm:X.mg "enumerate"=none) (hl:PE X e te) (he:starEach [e] X.env=[(false,eval e X.env)]:=by rfl):PI X (.Tuple elts k tpos) (.Call (.Name "enumerate" p) [e] [] pos) (sa_ X.K te):=by
 intro pins s σ H R I h;refine B4 (cG_ I hg hm boot_enumerate ?_);refine B' (thn ((aa_ hl ab_ he) _ pins s σ H (fun vs H1=>match vs with|[x]=>(∃a,x= .ref a/\(∃xs,SqL X.K H1 a xs)/\R (Ite X.K a) H1)|_=>False) I h) fun us s1 ⟨vs,H1,I1,r1,q1⟩=> ?_) he (by rfl)
 match vs,q1,r1 with
 |[x],q1,r1=>
 obtain⟨a,rfl,⟨xs,hq⟩,q⟩:=q1;obtain⟨u,rfl,ru⟩:=fD_ r1;obtain rfl:u=Value.ref a:=ru;obtain⟨its,rv,pl,hz⟩:=I1.list hq;refine call_enumerate_list pl.isList fun h' hen hit hsz hk=> ?_;refine wpAny_pyIter_enum hen ?_;refine⟨_,[_,_],_,_,H1,rfl,I1.kept (t':=s1.toks) hk,kh_ a _ _ (BQ (BF _)),⟨⟨_,by simpa using hen⟩,hit⟩,fun b hb=> ?_,q⟩;have fr:∀b,s1.heap.objs.size<=b->hD_ X pins H1 b:=fun b z=>I1.fpOk z (I1.hok.fresh z);rcases AI.mp hb with z|z
 .rw [z];exact fr _ (Cs _)
 .rw [Aq.mp z];exact fr _ (A7 _)
end
theorem jc_ {K:W.Frag}{a:Addr}{xs:List V}{g:TG}{tb:TS}{D:Ends}{σ:St}{H:Hp} (Pv:Nat->St->Hp->Prop) (h0:Pv 0 σ H) (hl:∀i σ H,i<=xs.length->Pv i σ H->SqL K H a xs)
  (hs:∀i x σ H p,xs[i]? =some x->Pv i σ H->H p=none->g (.ref p) σ (upd H p (.tup [.int i,x])) fun σ2 H2=>tb {D with nx:=Pv (i+1),ct:=Pv (i+1),bk:=D.nx} σ2 H2) (hd:∀σ H,Pv xs.length σ H->D.nx σ H):
  ∃Wq:Nat->Nat->St->Hp->Prop,(∃m,Wq 0 m σ H)/\∀i m σ H,Wq i m σ H->
   ((Ite K a).stop i H/\D.nx σ H)\/((Ite K a).go i H/\∃N:St->Hp->Prop,(∀σ' H',N σ' H'->∃m',m'<m/\Wq (i+1) m' σ' H')/\∀x H',(Ite K a).yld i H x H'->g x σ H' fun σ2 H2=>tb {D with nx:=N,ct:=N,bk:=D.nx} σ2 H2):=by
 refine⟨fun i m σ H=>m=xs.length-i/\i<=xs.length/\Pv i σ H,⟨xs.length,by simp,AK _,h0⟩, ?_⟩;rintro i m σ H ⟨rfl,hi,p⟩;have q:=hl i σ H hi p;by_cases hlt:i<xs.length
 .refine .inr ⟨⟨xs,xs[i],q,by simp [hlt]⟩,Pv (i+1),fun σ' H' p'=>⟨xs.length-(i+1),by lia,rfl,hlt,p'⟩,fun x H' y=> ?_⟩;obtain⟨z,pp,e1,e2,e3,e4⟩:=y;subst e2 e4;exact hs i z σ H pp (e1 xs q) p e3
 .have e:i=xs.length:=by lia
  subst e;exact .inl ⟨⟨xs,q,A7 _⟩,hd σ H p⟩
def rW_ (K:W.Frag):V->V->Hp->VK->Prop:=fun o i H Q=>∃(p:Addr) (xs:List V) (j:Nat) (k:Int) (v:V),o= .ref p/\i= .int k/\k=j/\SqL K H p xs/\xs[j]? =some v/\Q v H
theorem i8_ {X:Cx}:sv_ X (rW_ X.K):=by
 intro pins s σ H o i ov iv Q I r1 r2 h;obtain⟨p,xs,j,k,v,rfl,rfl,e,hq,hx,q⟩:=h;cases r1;obtain⟨t,rfl⟩:=r2;obtain⟨its,r,pl,hz⟩:=I.list hq;obtain⟨w,ew,rw'⟩:=r.get hx;have hl:=r.length;have hn:=eK_;have hj:j<xs.length:=(AD.mp hx).1;exact wpAny_getItem_list pl.isList (by lia) (by lia) (by rw [e,Ai];simpa using ew) ⟨v,H,I,rw',q⟩
end L2
namespace L2
open PySem PySem.Spec PyProof.Rows
section
variable {X:Cx}{e:Expr}{te:TE}{st:Expr}{ts:TO}{pos p2:Pos}
end
section
variable {X:Cx}{st:Stmt}{t:TS}
def sE_ (t:TS):TS:=fun D σ H=>∃I:St->Hp->Prop,t {D with nx:=I} σ H/\∀σ' H',I σ' H'->D.nx σ' H'
theorem nz_ (h:PS X st t):PS X st (sE_ t):=fun pins s σ H D Iv ⟨J,h1,h2⟩=>
 thn (h pins s σ H _ Iv h1) fun f s' hf=>by
  cases f with
  |next=>obtain⟨σ',H',a,b⟩:=hf;exact⟨σ',H',a,h2 _ _ b⟩
  |brk=>exact hf
  |cont=>exact hf
  |ret u=>exact hf
end
end L2
namespace L2
open PySem PySem.Spec PyProof.Rows
inductive D where
 |i (n:Int)|l (xs:List D)|t (xs:List D)
mutual
def Is (H:Hp):D->V->Prop
 | .i n,v=>v= .int n
 | .l xs,v=>∃a vs,v= .ref a/\H a=some (.lst vs)/\Iss H xs vs
 | .t xs,v=>∃a vs,v= .ref a/\H a=some (.tup vs)/\Iss H xs vs
def Iss (H:Hp):List D->List V->Prop
 |[],vs=>vs=[]
 |x::xs,vs=>∃u us,vs=u::us/\Is H x u/\Iss H xs us
end
theorem d1_ {H:Hp}{n:Int}:Is H (.i n) (.int n):=by unfold Is;rfl
theorem co_ {H:Hp}{a:Addr}{xs:List D}{vs:List V} (h:H a=some (.lst vs)) (k:Iss H xs vs):Is H (.l xs) (.ref a):=by unfold Is;exact⟨a,vs,rfl,h,k⟩
theorem fs_ {H:Hp}{a:Addr}{xs:List D}{vs:List V} (h:H a=some (.tup vs)) (k:Iss H xs vs):Is H (.t xs) (.ref a):=by unfold Is;exact⟨a,vs,rfl,h,k⟩
theorem c5_ {H:Hp}{n:Int}{v:V} (h:Is H (.i n) v):v= .int n:=by unfold Is at h;exact h
theorem b9_ {H:Hp}{xs:List D}{v:V} (h:Is H (.l xs) v):∃a vs,v= .ref a/\H a=some (.lst vs)/\Iss H xs vs:=by unfold Is at h;exact h
theorem fV_ {H:Hp}{xs:List D}{v:V} (h:Is H (.t xs) v):∃a vs,v= .ref a/\H a=some (.tup vs)/\Iss H xs vs:=by unfold Is at h;exact h
theorem ao_ {H:Hp}:Iss H [] []:=by unfold Iss;rfl
theorem ai_ {H:Hp}{x:D}{xs:List D}{u:V}{us:List V} (h:Is H x u) (k:Iss H xs us):Iss H (x::xs) (u::us):=by unfold Iss;exact⟨u,us,rfl,h,k⟩
theorem aA_ {H:Hp}{x:D}{xs:List D}{vs:List V} (h:Iss H (x::xs) vs):∃u us,vs=u::us/\Is H x u/\Iss H xs us:=by unfold Iss at h;exact h
theorem bh_ {H:Hp}{vs:List V} (h:Iss H [] vs):vs=[]:=by unfold Iss at h;exact h
mutual
theorem Is.mono {H H':Hp} (s:al_ H H'):∀{d:D}{v:V},Is H d v->Is H' d v
 | .i _,_,h=>by rw [c5_ h];exact d1_
 | .l xs,_,h=>by
  obtain⟨a,vs,e,q,r⟩:=b9_ h;rw [e];exact co_ (s _ _ q) (Iss.mono s r)
 | .t xs,_,h=>by
  obtain⟨a,vs,e,q,r⟩:=fV_ h;rw [e];exact fs_ (s _ _ q) (Iss.mono s r)
theorem Iss.mono {H H':Hp} (s:al_ H H'):∀{xs:List D}{vs:List V},Iss H xs vs->Iss H' xs vs
 |[],_,h=>by rw [bh_ h];exact ao_
 |x::xs,_,h=>by
  obtain⟨u,us,e,q,r⟩:=aA_ h;rw [e];exact ai_ (Is.mono s q) (Iss.mono s r)
end
theorem Iss.length {H:Hp}:∀{xs:List D}{vs:List V},Iss H xs vs->vs.length=xs.length
 |[],_,h=>by rw [bh_ h];rfl
 |x::xs,_,h=>by
  obtain⟨u,us,rfl,_,r⟩:=aA_ h;rw [AL,AL,r.length]
theorem Iss.get {H:Hp}:∀{xs:List D}{vs:List V}{j:Nat}{x:D},Iss H xs vs->xs[j]? =some x->∃v,vs[j]? =some v/\Is H x v
 |[],_,_,_,_,e=>by simp at e
 |x::xs,_,0,_,h,e=>by
  obtain⟨u,us,rfl,q,_⟩:=aA_ h;simp at e;subst e;exact⟨u,rfl,q⟩
 |x::xs,_,j+1,_,h,e=>by
  obtain⟨u,us,rfl,_,r⟩:=aA_ h;obtain⟨v,e',k⟩:=r.get (j:=j) (by simpa using e);exact⟨v,by simpa using e',k⟩
theorem Iss.of_get {H:Hp}{xs:List D}{vs:List V}{j:Nat}{v:V} (h:Iss H xs vs) (e:vs[j]? =some v):∃x,xs[j]? =some x/\Is H x v:=by
 have hj:j<vs.length:=(AD.mp e).1;have hj':j<xs.length:=by rw [<-h.length];exact hj
 obtain⟨u,e1,k⟩:=h.get (A3 hj');rw [e] at e1;cases e1;exact⟨_,A3 hj',k⟩
theorem Iss.append {H:Hp}:∀{xs ys:List D}{vs ws:List V},Iss H xs vs->Iss H ys ws->Iss H (xs++ys) (vs++ws)
 |[],_,_,_,h,k=>by rw [bh_ h];exact k
 |x::xs,_,_,_,h,k=>by
  obtain⟨u,us,rfl,q,r⟩:=aA_ h;exact ai_ q (r.append k)
theorem Iss.take {H:Hp}:∀{xs:List D}{vs:List V} (n:Nat),Iss H xs vs->Iss H (xs.take n) (vs.take n)
 |[],_,n,h=>by rw [bh_ h];simp;exact ao_
 |x::xs,_,0,h=>by simp;exact ao_
 |x::xs,_,n+1,h=>by
  obtain⟨u,us,rfl,q,r⟩:=aA_ h;exact ai_ q (r.take n)
theorem Iss.drop {H:Hp}:∀{xs:List D}{vs:List V} (n:Nat),Iss H xs vs->Iss H (xs.drop n) (vs.drop n)
 |[],_,n,h=>by rw [bh_ h];simp;exact ao_
 |x::xs,_,0,h=>h
 |x::xs,_,n+1,h=>by
  obtain⟨u,us,rfl,q,r⟩:=aA_ h;exact r.drop n
theorem Iss.rep {H:Hp}{x:D}{v:V} (h:Is H x v):∀n:Nat,Iss H (List.replicate n x) (List.replicate n v)
 |0=>ao_
 |n+1=>by rw [BI,BI];exact ai_ h (Iss.rep h n)
mutual
def Kin:D->D->Prop
 | .i _, .i _=>True
 | .l xs, .l ys=>jq_ xs ys
 | .t xs, .t ys=>jq_ xs ys
 |_,_=>False
def jq_:List D->List D->Prop
 |x::xs,y::ys=>Kin x y/\jq_ xs ys
 |_,_=>True
end
mutual
def eqD:D->D->Bool
 | .i a, .i b=>decide (a=b)
 | .l xs, .l ys=>hb_ xs ys
 | .t xs, .t ys=>hb_ xs ys
 |_,_=>false
def hb_:List D->List D->Bool
 |[],[]=>true
 |x::xs,y::ys=>eqD x y&&hb_ xs ys
 |_,_=>false
end
mutual
def dep:D->Nat
 | .i _=>0
 | .l xs=>j3_ xs+1
 | .t xs=>j3_ xs+1
def j3_:List D->Nat
 |[]=>0
 |x::xs=>max (dep x) (j3_ xs)
end
mutual
theorem o6_:∀{a b:D},eqD a b=true↔a=b
 | .i a, .i b=>by simp [eqD]
 | .i _, .l _=>by simp [eqD]
 | .i _, .t _=>by simp [eqD]
 | .l _, .i _=>by simp [eqD]
 | .l xs, .l ys=>by simp [eqD,eh_ (xs:=xs) (ys:=ys)]
 | .l _, .t _=>by simp [eqD]
 | .t _, .i _=>by simp [eqD]
 | .t _, .l _=>by simp [eqD]
 | .t xs, .t ys=>by simp [eqD,eh_ (xs:=xs) (ys:=ys)]
theorem eh_:∀{xs ys:List D},hb_ xs ys=true↔xs=ys
 |[],[]=>by simp [hb_]
 |[],_::_=>by simp [hb_]
 |_::_,[]=>by simp [hb_]
 |x::xs,y::ys=>by simp [hb_,o6_ (a:=x) (b:=y),eh_ (xs:=xs) (ys:=ys)]
end
theorem gm_:∀{xs ys:List D},xs.length=ys.length->hb_ xs ys=(List.range xs.length).all fun j=>eqD (xs.getD j (.i 0)) (ys.getD j (.i 0))
 |[],[],_=>by simp [hb_]
 |x::xs,y::ys,h=>by
  have ih:=gm_ (xs:=xs) (ys:=ys) (by simpa using h);rw [hb_,ih,AL,List.range_succ_eq_map];simp [List.all_map,Function.comp_def]
theorem jf_ {xs ys:List D} (h:xs.length≠ys.length):hb_ xs ys=false:=by
 cases e:hb_ xs ys with
 |false=>rfl
 |true=>exact absurd (Be List.length (eh_.mp e)) h
mutual
theorem Is.eqr {K:W.Frag}{H:Hp}:∀{d e:D}{v w:V}{n:Nat},dep d<=n->Kin d e->Is H d v->Is H e w->EqR K H n v w (eqD d e)
 | .i a, .i b,_,_,n,_,_,h,k=>by
  rw [c5_ h,c5_ k,eqD];exact EqR.int n a b
 | .l xs, .l ys,_,_,0,hn,_,_,_=>absurd hn (by unfold dep;lia)
 | .l xs, .l ys,_,_,n+1,hn,hk,h,k=>by
  obtain⟨a,vs,rfl,ha,ra⟩:=b9_ h;obtain⟨b,ws,rfl,hb,rb⟩:=b9_ k;have hn':j3_ xs<=n:=by unfold dep at hn;lia
  have hk':jq_ xs ys:=by unfold Kin at hk;exact hk
  have l1:=ra.length;have l2:=rb.length;rw [eqD];by_cases hl:xs.length=ys.length
  .rw [gm_ hl,<-l1];exact EqR.lists _ (SqL.of ha) (SqL.of hb) (by lia) fun j x y hx hy=>Iss.eqr hn' hk' ra rb hx hy
  .rw [jf_ hl];exact EqR.lens (SqL.of ha) (SqL.of hb) (by lia)
 | .t xs, .t ys,_,_,0,hn,_,_,_=>absurd hn (by unfold dep;lia)
 | .t xs, .t ys,_,_,n+1,hn,hk,h,k=>by
  obtain⟨a,vs,rfl,ha,ra⟩:=fV_ h;obtain⟨b,ws,rfl,hb,rb⟩:=fV_ k;have hn':j3_ xs<=n:=by unfold dep at hn;lia
  have hk':jq_ xs ys:=by unfold Kin at hk;exact hk
  have l1:=ra.length;have l2:=rb.length;rw [eqD];have q:=EqR.tuples (d:=n) (fun j=>eqD (xs.getD j (.i 0)) (ys.getD j (.i 0))) (SqT.of (K:=K) ha) (SqT.of (K:=K) hb) fun j x y hx hy=>Iss.eqr hn' hk' ra rb hx hy;by_cases hl:xs.length=ys.length
  .rw [gm_ hl];rw [l1,l2,<-hl,Nat.min_self] at q;simpa using q
  .rw [jf_ hl];have z:(vs.length==ws.length)=false:=by rw [l1,l2];simpa using hl
   rw [z,DD] at q;exact q
 | .i _, .l _,_,_,_,_,hk,_,_=>by unfold Kin at hk;exact hk.elim
 | .i _, .t _,_,_,_,_,hk,_,_=>by unfold Kin at hk;exact hk.elim
 | .l _, .i _,_,_,_,_,hk,_,_=>by unfold Kin at hk;exact hk.elim
 | .l _, .t _,_,_,_,_,hk,_,_=>by unfold Kin at hk;exact hk.elim
 | .t _, .i _,_,_,_,_,hk,_,_=>by unfold Kin at hk;exact hk.elim
 | .t _, .l _,_,_,_,_,hk,_,_=>by unfold Kin at hk;exact hk.elim
theorem Iss.eqr {K:W.Frag}{H:Hp}:∀{xs ys:List D}{vs ws:List V}{n:Nat},j3_ xs<=n->jq_ xs ys->Iss H xs vs->Iss H ys ws->∀{j:Nat}{x y:V},vs[j]? =some x->ws[j]? =some y->
  EqR K H n x y (eqD (xs.getD j (.i 0)) (ys.getD j (.i 0)))
 |[],_,_,_,_,_,_,h,_,_,_,_,e,_=>by rw [bh_ h] at e;simp at e
 |_::_,[],_,_,_,_,_,_,k,_,_,_,_,e=>by rw [bh_ k] at e;simp at e
 |x::xs,y::ys,_,_,n,hn,hk,h,k,0,u,w,e1,e2=>by
  obtain⟨u',us,rfl,q,_⟩:=aA_ h;obtain⟨w',ws,rfl,q',_⟩:=aA_ k;simp at e1 e2;subst e1 e2;have hk':Kin x y/\jq_ xs ys:=by unfold jq_ at hk;exact hk
  have hd:dep x<=n:=by unfold j3_ at hn;lia
  exact Is.eqr (d:=x) (e:=y) hd hk'.1 q q'
 |x::xs,y::ys,_,_,n,hn,hk,h,k,j+1,u,w,e1,e2=>by
  obtain⟨u',us,rfl,_,r⟩:=aA_ h;obtain⟨w',ws,rfl,_,r'⟩:=aA_ k;have hk':Kin x y/\jq_ xs ys:=by unfold jq_ at hk;exact hk
  have hd:j3_ xs<=n:=by unfold j3_ at hn;lia
  have:=Iss.eqr (K:=K) hd hk'.2 r r' (j:=j) (by simpa using e1) (by simpa using e2);simpa using this
end
abbrev Pt:=Int×Int
def pt (p:Pt):D:= .t [.i p.1, .i p.2]
def hid (H:Hp) (a:Addr):Hp:=fun b=>if b=a then none else H b
theorem lw_ {H:Hp}{a b:Addr} (h:b≠a):hid H a b=H b:=by unfold hid;rw [A9 h]
theorem mY_ {H:Hp}{a:Addr}:hid H a a=none:=by unfold hid;rw [AA rfl]
theorem mZ_ {H:Hp}{a:Addr}:al_ (hid H a) H:=fun b o e=>by
 unfold hid at e;split at e
 .cases e
 .exact e
theorem cM_ {H H':Hp}{a:Addr} (s:al_ H H'):al_ (hid H a) (hid H' a):=fun b o e=>by
 unfold hid at e⊢;split at e
 .cases e
 .rename_i h;rw [A9 h];exact s b o e
end L2
namespace L2
open PySem PySem.Spec PyProof.Rows
section
variable {X:Cx}{es:List Expr}{t:TA}{pos:Pos}
def New (H:Hp) (o:HO) (Q:VK):Prop:=∀p H2,H p=none->al_ H H2->H2 p=some o->Q (.ref p) H2
theorem New.at {H:Hp}{o:HO}{Q:VK} (q:New H o Q) {p:Addr} (np:H p=none):Q (.ref p) (upd H p o):=q p _ np (al_.new np) ae_
def rh_ (t:TA):TE:=fun σ H Q=>t σ H fun xs H1=>xs.length<=sizeLine/\New H1 (.tup xs) Q
def rr_ (t:TA):TE:=fun σ H Q=>t σ H fun xs H1=>xs.length<=sizeLine/\New H1 (.lst xs) Q
theorem aR_ {x1} (h:PA X es t):PE X (.Tuple es x1 pos) (rh_ t):=by
 intro pins s σ H Q I hq;refine wpAny_Tuple_spliced (thn (h pos pins s σ H _ I hq) fun us s1 ⟨xs,H1,I1,r,z,q⟩=>⟨by rw [<-r.length];exact z, ?_⟩);refine⟨.ref s1.heap.objs.size,upd H1 s1.heap.objs.size (.tup xs),I1.laid (t':=s1.toks) (fun b u e=>A4 _ e) (A7 _) ?_,rfl,q.at (I1.hok.fresh (A7 _))⟩;exact⟨z,us,r,⟨_,AE _ rfl,rfl,_,rfl⟩⟩
theorem aw_ (h:PA X es t):PE X (.List es pos) (rr_ t):=by
 intro pins s σ H Q I hq;refine wpAny_List_spliced (thn (h pos pins s σ H _ I hq) fun us s1 ⟨xs,H1,I1,r,z,q⟩=>⟨by rw [<-r.length];exact z, ?_⟩);refine⟨.ref s1.heap.objs.size,upd H1 s1.heap.objs.size (.lst xs),I1.laid (t':=s1.toks) (fun b u e=>A4 _ e) (A7 _) ?_,rfl,q.at (I1.hok.fresh (A7 _))⟩;exact⟨z,us,0,r,AE _ rfl⟩
theorem OpR.imp {f:Value->Value->Sem Value}{r r':R2} (h:OpR X f r) (k:∀x y H Q,r' x y H Q->r x y H Q):OpR X f r':=fun pins s σ H x y v u Q I rx ry q=>h pins s σ H x y v u Q I rx ry (k _ _ _ _ q)
theorem b8_.imp {f:Value}{r r':List V->Hp->VK->Prop} (h:b8_ X f r) (k:∀xs H Q,r' xs H Q->r xs H Q):b8_ X f r':=fun pins s σ H xs us Q I rs q=>h pins s σ H xs us Q I rs (k _ _ _ q)
theorem eC_:OpR X (binaryOp .Add) (fun x y H Q=>∃xs zs,Is H (.l xs) x/\Is H (.l zs) y/\xs.length+zs.length<=sizeLine/\∀p H2,H p=none->al_ H H2->Is H2 (.l (xs++zs)) (.ref p)->Q (.ref p) H2):=
 dV_.imp fun x y H Q ⟨xs,zs,hx,hz,hl,q⟩=>by
  obtain⟨a,vs,rfl,ha,ra⟩:=b9_ hx;obtain⟨b,ws,rfl,hb,rb⟩:=b9_ hz;exact⟨a,b,vs,ws,rfl,rfl,ha,hb,by rw [ra.length,rb.length];exact hl,fun p np=>q p _ np (al_.new np) (co_ ae_ ((ra.append rb).mono (al_.new np)))⟩
theorem kE_ {α:Type}{x:α}:∀n:Nat,(List.replicate n [x]).flatten=List.replicate n x
 |0=>rfl
 |n+1=>by rw [BI,Cf,kE_ n,BI];rfl
theorem c4_:OpR X (binaryOp .Mult) (fun x y H Q=>∃d n,Is H (.l [d]) x/\y= .int n/\-(2^63)<=n/\n<2^63/\n.toNat<=sizeLine/\∀p H2,H p=none->al_ H H2->Is H2 (.l (List.replicate n.toNat d)) (.ref p)->Q (.ref p) H2):=
 qa_.imp fun x y H Q ⟨d,n,hx,ey,h1,h2,hl,q⟩=>by
  obtain⟨a,vs,rfl,ha,ra⟩:=b9_ hx;obtain⟨u,us,rfl,hu,ru⟩:=aA_ ra;rw [bh_ ru] at ha;refine⟨a,n,_,rfl,ey,ha,h1,h2,by rw [BL,Nat.one_mul];exact hl,fun p np=>q p _ np (al_.new np) ?_⟩;rw [kE_];exact co_ ae_ ((Iss.rep hu _).mono (al_.new np))
theorem gr_:b8_ X (.type "list") (fun vs H Q=>∃v xs,vs=[v]/\(Is H (.l xs) v\/Is H (.t xs) v)/\∀p H2,H p=none->al_ H H2->Is H2 (.l xs) (.ref p)->Q (.ref p) H2):=
 hn_.imp fun vs H Q ⟨v,xs,ev,hx,q⟩=>by
  subst ev;rcases hx with hx|hx
  .obtain⟨a,ws,rfl,ha,ra⟩:=b9_ hx;exact⟨a,ws,rfl, .inl (SqL.of ha),fun p np=>q p _ np (al_.new np) (co_ ae_ (ra.mono (al_.new np)))⟩
  .obtain⟨a,ws,rfl,ha,ra⟩:=fV_ hx;exact⟨a,ws,rfl, .inr (SqT.of ha),fun p np=>q p _ np (al_.new np) (co_ ae_ (ra.mono (al_.new np)))⟩
theorem b1_:b8_ X (.type "tuple") (fun vs H Q=>∃v xs,vs=[v]/\Is H (.l xs) v/\∀p H2,H p=none->al_ H H2->Is H2 (.t xs) (.ref p)->Q (.ref p) H2):=
 dv_.imp fun vs H Q ⟨v,xs,ev,hx,q⟩=>by
  subst ev;obtain⟨a,ws,rfl,ha,ra⟩:=b9_ hx;exact⟨a,ws,rfl, .inl ⟨SqL.of ha,fun p np=>q p _ np (al_.new np) (fs_ ae_ (ra.mono (al_.new np)))⟩⟩
theorem qy_ {α:Type}{xs:List α}{i:Int}{j:Nat}{x:α} (e:i=j) (h:xs[j]? =some x):atI xs i=some x:=by rw [e];exact im_ h
theorem Iss.atI {H:Hp}{xs:List D}{vs:List V}{i:Int}{x:D} (h:Iss H xs vs) (e:L2.atI xs i=some x):∃u,L2.atI vs i=some u/\Is H x u:=by
 unfold L2.atI at e⊢;rw [h.length];cases q:ixN xs.length i with
 |none=>rw [q] at e;cases e
 |some j=>
  rw [q] at e;obtain⟨u,e1,k⟩:=h.get (j:=j) e;exact⟨u,e1,k⟩
theorem aO_:IxR X (fun x y H Q=>∃xs i d,Is H (.t xs) x/\y= .int i/\atI xs i=some d/\∀u,Is H d u->Q u H):=by
 intro value slice pins s σ H x y v u Q I rx ry h hs;obtain⟨xs,i,d,hx,ey,e,q⟩:=h;obtain⟨a,vs,rfl,ha,ra⟩:=fV_ hx;obtain⟨z,ez,hz⟩:=ra.atI e;exact qx_ value slice pins s σ H (.ref a) y v u Q I rx ry ⟨a,vs,i,z,rfl,ey,SqT.of ha,ez,q z hz⟩ hs
theorem lX_:b8_ X (.builtin "len") (fun vs H Q=>∃v xs,vs=[v]/\(Is H (.l xs) v\/Is H (.t xs) v)/\Q (.int xs.length) H):=
 bv_.imp fun vs H Q ⟨v,xs,ev,hx,q⟩=>by
  subst ev;rcases hx with hx|hx
  .obtain⟨a,ws,rfl,ha,ra⟩:=b9_ hx;exact⟨a,ws,rfl, .inl (SqL.of ha),by rw [ra.length];exact q⟩
  .obtain⟨a,ws,rfl,ha,ra⟩:=fV_ hx;exact⟨a,ws,rfl, .inr (SqT.of ha),by rw [ra.length];exact q⟩
end
end L2
namespace L2
open PySem PySem.Spec PyProof.Rows
section
variable {P:Program}{w:World}{H:Hp}{h:Heap}{a:Addr}{o:HO}
theorem aH_.obj (x:aH_ P w H h a o):∃ob,h.get? a=some ob:=by
 cases o with
 |lst xs=>obtain⟨_,_,_,_,e⟩:=x;exact⟨_,e⟩
 |tup xs=>obtain⟨_,_,_,_,e,_⟩:=x;exact⟨_,e⟩
 |dK kvs=>obtain⟨_,_,_,_,_,_,_,e,_⟩:=x;exact⟨_,e⟩
 |dT kvs=>obtain⟨_,_,_,_,_,_,_,e,_⟩:=x;exact⟨_,e⟩
 |set S n=>obtain⟨_,_,_,_,e,_⟩:=x;exact⟨_,e⟩
 |ins C dx fs=>obtain⟨_,_,_,e,_⟩:=x;exact⟨_,e⟩
 |own y=>exact x
 |xd fs=>obtain⟨_,⟨_,_,_,e,_⟩,_⟩:=x;exact⟨_,e⟩
 |rng lo hi=>obtain⟨_,_,_,e⟩:=x;exact⟨_,e⟩
 |frz ob u=>exact⟨_,x.1⟩
 |tbl ps=>exact⟨_,x⟩
 |met f y=>exact⟨_,x⟩
 |ext φ=>exact x.2.1
end
def CX1 (P:Program) (w:World):CXT:=fun outer H s E e s'=>
 ∃(a C:Addr) (H':Hp) (B:Heap) (a0:Value),e= .ref a/\E (.ref C) none H'/\s'.os=s.os/\AllBare s'.gens/\Un (frs outer) [] H H' s.heap s'.heap/\HOk P w H' B/\H' a=none/\
  Heap.FlyingW B outer a (.ref C) a0 s'.heap/\(∀b o,s.heap.get? b=some o->H b=none->b∉frs outer->B.get? b=some o)/\(∀b o,s.heap.get? b=some o->b∉frs outer->∃o',B.get? b=some o')
def l3_ (X:Cx) (E:XK):Prop:=∀(pins:List (Addr×Obj)) (σ:St) (H:Hp) (s:Shared) (h':Heap) (e C:Addr) (args:List Value),Inv X pins σ H s->Heap.MadeExcOf s.heap h' e (.ref C) args->E (.ref C) none H->X.xe (.ref e) {s with heap:=h'}
theorem p8_ {X:Cx}{P:Program}{w:World}:e3_ (CX1 P w) X E0:=fun _ _ _ _ _ _ _ ⟨_,_,_,_,_,_,z,_⟩=>z.elim
section
variable {X:Cx}{pins:List (Addr×Obj)}{σ:St}{H H':Hp}{s s':Shared}{B h':Heap}{l:List Env}
theorem ke_ (u:Un (frs l) [] H H' s.heap s'.heap) (fl:s'.heap.FunFrames B l) (kB:∀b o,s.heap.get? b=some o->H b=none->b∉frs l->B.get? b=some o) (tB:∀b o,s.heap.get? b=some o->b∉frs l->∃o',B.get? b=some o')
  (st:B.StaysIn h') (up:s'.heap.UpToSlots h'):Un (frs l) [] H H' s.heap h' where
 keep:=fun b o e n hb _=>st b o (kB b o e n hb)
 slot:=fun b o e n hb hx=>by
  obtain⟨sl,e1⟩:=u.slot b o e n hb hx;obtain⟨_,o',e2,d⟩:=fl.mem hb;rw [e1] at e2;cases e2;obtain⟨sl',e3⟩:=up b _ e1 d;exact⟨sl',e3⟩
 free:=u.free
 there:=fun b o e hx=>by
  by_cases hb:b∈frs l
  .obtain⟨_,o',e2,d⟩:=fl.mem hb;obtain⟨sl',e3⟩:=up b _ e2 d;exact⟨_,e3⟩
  .obtain⟨o',e2⟩:=tB b o e hb;exact⟨o',st b o' e2⟩
 tups:=u.tups
 frzs:=u.frzs
 tbls:=u.tbls
theorem Inv.nstk (I:Inv X pins σ H s) {b:Addr}{o:Obj} (e:X.s₀.heap.get? b=some o) (hb:b∉X.fs):b∉frs X.stack:=fun z=>by
 rcases AI.mp (I.stkSub b z) with q|q
 .exact absurd q (AJ (AX (AG e) I.ok.above))
 .exact hb q
theorem nM_ {env:Env}{b:Addr} (he:env∈l) (hf:env.frame=some b):b∈frs l:=DB.mpr ⟨env,he,hf⟩
theorem Inv.hidden (I:Inv X pins σ H s):HOk X.prog X.w H (W.hideAll s.heap (frs X.stack)):=fun a o e=>by
 refine(I.hok a o e).stay (fun b u hb q=>W.hideAll_get _ q fun z=> ?_) (fun _ q=>q) fun _ _ q=>q;have n:=I.stkFree b z;rcases hb with rfl|hb
 .rw [n] at e;cases e
 .rw [n] at hb;cases hb
structure Fnc (X:Cx):Prop where
 ex:X.ex=[]
 stk:X.stack=X.env::X.outer
 fr:X.env.frame=some X.env.locals
theorem CX1.mk {E:XK}{e C:Addr}{a0:Value} (F:Fnc X) (I:Inv X pins σ H s) (os:s'.os=s.os) (bare:AllBare s'.gens) (u:Un (frs X.stack) [] H H' s.heap s'.heap) (hB:HOk X.prog X.w H' B) (hE:E (.ref C) none H') (hn:H' e=none)
  (fl:Heap.FlyingW B X.outer e (.ref C) a0 s'.heap) (kB:∀b o,s.heap.get? b=some o->H b=none->b∉frs X.stack->B.get? b=some o) (tB:∀b o,s.heap.get? b=some o->b∉frs X.stack->∃o',B.get? b=some o'):
  CX1 X.prog X.w X.outer X.H₀ X.s₀ E (.ref e) s':=by
 have J:Inv X pins σ H' s':=I.call' (ch:=[]) os u (hB.kept fl.1) bare fun _ z=>absurd z (by simp);have ub:Un X.fs X.ex X.H₀ H' X.s₀.heap s'.heap:=J.base;have nx:∀b:Addr,b∉X.ex:=fun b=>by rw [F.ex];simp
 rw [F.ex] at ub;refine⟨e,C,H',B,a0,rfl,hE,J.os,J.bare,ub,hB,hn,fl,fun b o q n hb=> ?_,fun b o q hb=> ?_⟩
 .exact kB b o (I.base.keep b o q n hb (nx b)) (I.base.free b o q n (nx b)) (I.nstk q hb)
 .obtain⟨o',q'⟩:=I.base.there b o q (nx b);exact tB b o' q' (I.nstk q hb)
theorem kG_ {CX:CXT}{E:XK} (F:Fnc X) (hcx:CX=CX1 X.prog X.w) (hxe:X.xe=fun e s'=>wpAny (model X.prog X.w) X.A (leaving X.env e) (fun _ s''=>CX X.outer X.H₀ X.s₀ E e s'') (fun e' s''=>CX X.outer X.H₀ X.s₀ E e' s'') s'):l3_ X E:=by
 intro pins σ H s h' e C args I hx hE;subst hcx;rw [hxe];have fb:=I.stack;have hl:s.heap.FunFrames (W.hideAll s.heap (frs X.stack)) (X.env::X.outer):=by
  rw [F.stk] at fb⊢;exact W.funFrames_hide fb fun env he b hb=>nM_ he hb
 refine wpAny_leaves_madeW (base:=W.hideAll s.heap (frs X.stack)) (by rw [I.ok.frames,F.stk]) F.fr (fun b o q=>W.of_hideAll _ q) hl hx fun h'' t fl _ _ up=> ?_;have kB:∀b o,s.heap.get? b=some o->b∉frs X.stack->(W.hideAll s.heap (frs X.stack)).get? b=some o:=fun b o q n=>W.hideAll_get _ q n;have hn:H e=none:=by
  cases q:H e with
  |none=>rfl
  |some o=>
   obtain⟨ob,z⟩:=(I.hok e o q).obj;rw [hx.new] at z;cases z
 have u0:Un (frs X.stack) [] H H s.heap h':=Un.kept hx.keeps;have fl':h'.FunFrames (W.hideAll s.heap (frs X.stack)) X.stack:=by
  rw [F.stk];rw [F.stk] at hl;exact hl.of_keeps fun b o q _=>⟨o,hx.keeps b o q,rfl⟩
 have u:Un (frs X.stack) [] H H s.heap h'':=ke_ (s':={s with heap:=h'}) u0 fl' (fun b o q _ n=>kB b o q n) (fun b o q n=>⟨o,kB b o q n⟩) fl.1 up;exact CX1.mk (s':={s with heap:=h''}) F I rfl I.bare u I.hidden hE hn fl (fun b o q _ n=>kB b o q n) (fun b o q n=>⟨o,kB b o q n⟩)
theorem kV_ {CX:CXT}{E:XK} (F:Fnc X) (hcx:CX=CX1 X.prog X.w) (hxe:X.xe=fun e s'=>wpAny (model X.prog X.w) X.A (leaving X.env e) (fun _ s''=>CX X.outer X.H₀ X.s₀ E e s'') (fun e' s''=>CX X.outer X.H₀ X.s₀ E e' s'') s'):e3_ (CX1 X.prog X.w) X E:=by
 intro pins σ H s e s' I hc;subst hcx;rw [hxe];obtain⟨a,C,H',B,a0,rfl,hE,os,bare,u,hB,hn,fl,kB,tB⟩:=hc;refine wpAny_leaves_onW (by rw [I.ok.frames,F.stk]) F.fr (by rw [<-F.stk];exact fl) fun h'' fl'' up=> ?_;exact CX1.mk (s':={s' with heap:=h''}) F I os bare (ke_ u fl.2.2.1 kB tB fl''.1 up) hB hE hn fl'' kB tB
end
theorem Fun.okx {P:Program}{w:World}{K:W.Frag}{mg:Str->Option Value}{base:Heap}{x qual:Str}{st:Stmt}{f:Addr}{fd:FuncData}{N ps:List Str}{k:Nat}{sp:Sp} (F:Fun K x qual st f fd) (S:FnScope N ps (ag_ st)) (len:∀vs H Q E,sp vs H Q E->vs.length=ps.length)
  (hbody:∀(cdv:Value) (A:Around) (outer:List Env) (s:Shared) (H:Hp) (vs:List V) (Q:VK) (E:XK),Room k (A.deeper (envOfC qual (ag_ st) s.heap.objs.size f cdv))->sp vs H Q E->
   l3_ (ih_ (CX1 P w) P w K mg base N qual (ag_ st) f cdv A outer s H E) E->e3_ (CX1 P w) (ih_ (CX1 P w) P w K mg base N qual (ag_ st) f cdv A outer s H E) E->
   ∃t,PSs (ih_ (CX1 P w) P w K mg base N qual (ag_ st) f cdv A outer s H E) (bd_ st) t/\t {nx:=fun _ H'=>Q .non H',rt:=Q} (start N vs) H):FnOk P w K mg base (CX1 P w) (k+1) f fd ps sp:=by
 obtain⟨oc,od,kV,doc,pm,an,cdv,ct,osl,rfl,lk,hcd⟩:=F.ex;refine qG_ lk hcd S len fun A outer s H vs Q E hr hsp=> ?_;have Fn:Fnc (ih_ (CX1 P w) P w K mg base N qual (ag_ st) f cdv A outer s H E):=⟨rfl,rfl,rfl⟩;exact hbody cdv A outer s H vs Q E hr hsp (kG_ Fn rfl rfl) (kV_ Fn rfl rfl)
theorem Fun.oky {P:Program}{w:World}{K:W.Frag}{mg:Str->Option Value}{base:Heap}{x qual:Str}{st:Stmt}{f:Addr}{fd:FuncData}{N ps:List Str}{k:Nat}{sp:Sp} (F:Fun K x qual st f fd) (S:FnScope N ps (ag_ st)) (len:∀vs H Q E,sp vs H Q E->vs.length=ps.length)
  (hbody:∀(cdv:Value) (A:Around) (outer:List Env) (s:Shared) (H:Hp) (vs:List V) (Q:VK) (E:XK),Room k (A.deeper (envOfC qual (ag_ st) s.heap.objs.size f cdv))->sp vs H Q E->
   Fnc (ih_ CX0 P w K mg base N qual (ag_ st) f cdv A outer s H E).nox->
   ∃t,PSs (ih_ CX0 P w K mg base N qual (ag_ st) f cdv A outer s H E).nox (bd_ st) t/\t {nx:=fun _ H'=>Q .non H',rt:=Q} (start N vs) H):FnOk P w K mg base CX0 (k+1) f fd ps sp:=
 F.ok S len fun cdv A outer s H vs Q E hr hsp=>hbody cdv A outer s H vs Q E hr hsp ⟨rfl,rfl,rfl⟩
section
variable {X:Cx}{pos np cpos:Pos}{x:Str}{C:Addr}{E:XK}{e:Expr}{es:List Expr}{t:TA}
abbrev bmV:List Value:=[.type "ValueError", .type "Exception", .type "BaseException", .type "object"]
theorem o4_ {K:W.Frag}{h:Heap}{bmB:List Value}{newId:String} (Y:K.In h) (q:W.excIn K C bmB newId=true):
  ∃bm N nm qn bs hdct sn sub ab col dd k0 k1 k2 k3 k5 mN,h.get? C=some (excClassObj nm qn C N bs bm hdct sn sub ab col dd k0 k1 k2 k3 k5 newId)/\h.Ns N mN/\mN "__init__"=none/\OwnTail h bmB bm:=by
 unfold W.excIn at q;split at q
 case h_2=>cases q
 rename_i dd cd sl ho;split at q
 case h_2=>cases q
 rename_i C' bm k0 k1 k2 k3 n k5 hm hs;rw [AN,AN,AN,AN,AN,Cn,Cn,Cn,Bool.not_eq_true'] at q;obtain⟨⟨⟨⟨⟨e1,e2⟩,e3⟩,e4⟩,e5⟩,e6⟩:=q;subst e1 e2;rcases cd with⟨nm,bs,mro,ns,qn,hd,sn,sub,ab,col,del⟩;dsimp only at hm e3 e5 e6;subst hm e3;have hsl:sl= #[k0,k1,k2,k3,some (.builtin n),k5]:=by
  rcases sl with⟨l⟩;have hs':l=_:=hs;rw [hs']
 subst hsl;exact⟨bm,ns,nm,qn,bs,hd,sn,sub,ab,col,dd,k0,k1,k2,k3,k5,_,Y _ _ ho, .of_isNs (W.isNs_of_in Y e5),W.nsMap_none_of_in Y e5 e6,W.tail_of_in Y e4⟩
def no_ (C:Addr) (E:XK) (t:TA):TS:=fun _ σ H=>t σ H fun vs H1=>vs.length<=sizeLine/\E (.ref C) none H1
theorem fO_ (hR:l3_ X E) (hg:Gl X x) (hm:X.mg x=some (.ref C)) (hC:W.excIn X.K C bmV "ValueError.__new__"=true) (hc:X.calm=true) (ha:PA X (e::es) t) (hdb:(x==("__debug__":Str))=false:=by decide)
  (he:starEach (e::es) X.env=(false,eval e X.env)::starEach es X.env:=by rfl) (hpl:(backTo cpos (starEach es X.env)).any (·.1)=false:=by rfl):
  PS X (.Raise (some (.Call (.Name x np) (e::es) [] cpos)) none pos) (no_ C E t):=by
 intro pins s σ H D I h;have hcl:=I.ok.mod.kin;obtain⟨bm',N',nm',qn',bs',hdct',sn',sub',ab',col',dd',k0',k1',k2',k3',k5',mN',hCb,hNb,hnib,TLb⟩:=o4_ hcl hC;refine wpAny_Raise_call_subT (q:=qn') (N:=N') (bs:=bs') (bm:=bm') (hdct:=hdct') (sn:=sn') (sub:=sub') (ab:=ab') (col:=col') (dd:=dd') (k0:=k0') (k1:=k1') (k2:=k2') (k3:=k3') (k5:=k5') (nm:=nm') (mN:=mN') PySem.F.excBase_ValueError
  (TLb.hasType (by ac_nf)) (I.ok.hd hc) (by rw [he];show(false||(backTo cpos (starEach es X.env)).any (·.1))=false;rw [hpl];rfl) hnib (eO_ I hg hm ⟨rfl, ?_⟩ hdb)
 have h2:=ha cpos pins s σ H _ I h;rw [he] at h2⊢;refine Calls.evalArgs_plain (thn h2 fun us s1 ⟨vs,H1,I1,r,hz,hE⟩=>⟨rfl,by rw [<-r.length];exact hz,I1.bk _ _ hCb,hNb.keeps I1.bk,TLb.keeps I1.bk,fun h' e' hx=> ?_⟩);exact hR pins σ H1 s1 h' e' C us I1 hx hE
end
theorem PS.quiet {X:Cx}{st:Stmt}{t:TS} (h:PS X.nox st t):PS X st t:=fun pins s σ H D I hw=>BG (h pins s σ H D (I.wish _) hw) (fun _ _ q=>q.unwish) fun _ _ z=>False.elim z
section
variable {X:Cx}{pos:Pos}{e v:Expr}{es:List Expr}{te:TE}
abbrev TJ:=Str->St->Hp->VK->Prop
def PJ (X:Cx) (es:List Expr) (t:TJ):Prop:=∀(out:Str) (pins:List (Addr×Obj)) (s:Shared) (σ:St) (H:Hp) (Q:VK),Inv X pins σ H s->t out σ H Q->wpAny (model X.prog X.w) X.A (joinParts out (evalEach es X.env)) (EP X pins σ Q) X.xe s
def tJn:TJ:=fun out _ H Q=>out.length<=sizeLine/\Q (.str out) H
def tJc (te:TE) (tr:TJ):TJ:=fun out σ H Q=>te σ H fun x H1=>∃y,x= .str y/\(out++y).length<=sizeLine/\tr (out++y) σ H1 Q
theorem p2_:PJ X [] tJn:=fun out pins s σ H Q I h=>joinParts_nil ⟨.str out,H,I.tok _,⟨_,rfl⟩,h.2⟩ h.1
theorem fP_ {tr:TJ} (he:PE X e te) (hr:PJ X es tr):PJ X (e::es) (tJc te tr):=by
 intro out pins s σ H Q I h;show wpAny _ _ (joinParts out (eval e X.env::evalEach es X.env)) _ _ _;refine joinParts_cons (thn (he pins s σ H _ I h) fun u s1 ⟨x,H1,I1,r1,y,ex,hz,q1⟩=> ?_);subst ex;obtain⟨tk,rfl⟩:=r1;exact⟨hz,hr (out++y) pins s1 σ H1 Q I1 q1⟩
theorem oF_ {v2:Expr}{t:TJ} (h:PJ X (e::v2::es) t):PE X (.JoinedStr (e::v2::es) pos) (fun σ H Q=>t Str.empty σ H Q):=fun pins s σ H Q I hq=>JoinedStr_many (h Str.empty pins s σ H Q I hq)
theorem kT_ (hv:PE X v te):PE X (.FormattedValue v (-1) none pos) (fun σ H Q=>te σ H fun x H1=>∃i,x= .int i/\i.natAbs.log2<1920/\Q (.str (toString i)) H1):=by
 intro pins s σ H Q I h;refine FormattedValue_plain (thn (hv pins s σ H _ I h) fun u s1 ⟨x,H1,I1,r1,i,ex,hz,q1⟩=> ?_);subst ex;obtain⟨tk,rfl⟩:=r1;exact formatField_int_small hz ⟨.str _,H1,I1.tok _,⟨_,rfl⟩,q1⟩
end
section
variable {X:Cx}{CX:CXT}{ps:List Str}{sp:Sp}{E:XK}{x:Str}{p pos:Pos}{e:Expr}{es:List Expr}{t:TA}{i:Nat}
structure Deed (X:Cx) (CX:CXT) (ps:List Str) (sp:Sp) (f:Addr):Prop where
 ok:∃k fd,FnOk X.prog X.w X.K X.mg X.base CX k f fd ps sp/\Room k X.A/\hx_ X.K fd ps []
 kp:W.keepIn X.K (.ref f)=true
def nq_ (D:Addr->Prop) (i:Nat) (sp:Sp) (E:XK) (t:TA):TE:=fun σ H Q=>∃f,σ[i]? =some (some (.ref f))/\D f/\t σ H fun vs H1=>sp vs H1 Q E
theorem mE_ {D:Addr->Prop} (hf:PE X (.Name x p) (ob_ i)) (hD:∀f,D f->Deed X CX ps sp f) (hx:e3_ CX X E) (ha:PA X (e::es) t)
  (he:starEach (e::es) X.env=(false,eval e X.env)::starEach es X.env:=by rfl) (hpl:(backTo pos (starEach es X.env)).any (·.1)=false:=by rfl):PE X (.Call (.Name x p) (e::es) [] pos) (nq_ D i sp E t):=by
 intro pins s σ H Q I h;obtain⟨f,ef,df,h⟩:=h;obtain⟨⟨k,fd,F,hr,hb⟩,hk⟩:=hD f df;refine B4 (thn (hf pins s σ H (fun v H1=>v= .ref f/\H1=H) I ⟨_,ef,rfl,rfl⟩) fun u s0 ⟨v,H0,I0,r0,ev,eh⟩=> ?_);subst ev eh;obtain rfl:u=Value.ref f:=r0;refine D' (h₀:=X.base) I.ok.mod.kin hk (thn (ha pos pins s0 σ _ _ I0 h) fun us s1 ⟨vs,H1,I1,r,q⟩=>⟨I1.kIn, ?_⟩) he hpl;exact nu_ (dvs:=[]) F hr hb .nil hx I1 r (by rw [Ag];exact q)
end
end L2
namespace L2
open PySem PySem.Calls PyProof.Rows PySem.W Builtin Builtin.ObjectAttr Builtin.Getset_descriptor
structure XC (K:Frag) (C:Addr):Prop where
 cl:(clsIn K C).isSome=true
 ga:findIn K (.ref C) "__getattribute__"=some (some (.builtin "BaseException.__getattribute__"))
 gt:findIn K (.ref C) "__getattr__"=some none
 ca:findIn K (.ref C) "__class__"=some (some (.builtin "object.__class__"))
 gn:specialIn K (.builtin "object.__class__") "__get__"=some (some (.builtin "getset_descriptor.__get__"))
 tk:takesIn K (.builtin "object.__class__")=some true
 ob:mroIn K C (.type "object")=some true
 be:mroIn K C (.type "BaseException")=some true
section
variable {prog:Program}{w:World}{A:Around}{E:Value->Shared->Prop}{K:Frag}{x C:Addr}{h:Heap}{g:Array GenState}{d:Drawn}{t:Nat}{os:OsState}
theorem hE_ {M:Model}{o:Obj} (e:h.get? x=some o) (c:o.cls= .ref C):Looks M h (typeOf (.ref x)) (.ref C):=c▸(Looks.ld e).andThen .now
theorem pv_ {R:Result->Shared->Prop}{tp:Value} (Y:K.In h) (F:XC K C) (LT:∀M:Model,Looks M h (typeOf (.ref x)) (.ref C)) (q:R (.ok (.ret (.ref C))) ⟨h,g,d,t,os⟩):
  codeAny (model prog w) A (.call (.builtin "getset_descriptor.__get__") ⟨[.builtin "object.__class__", .ref x,tp],[]⟩) R ⟨h,g,d,t,os⟩:=by
 have L0:=LT (model prog w);have L1:=looks_mroIn (M:=model prog w) Y F.ob;refine codeAny_call_builtin KF.slot_gs.plain KF.entry_gs (KF.slot_gs.check _ _ _ _ _ _ _ _ KF.type_class (KF.args_gs _ _ _) ?_);unfold Builtin.«getset_descriptor.__get__» descrGet;rw [dga_obj];refine A0 (A2 ?_);unfold descrGetter descrCheckInstance descrNameAndClass isInstance;simp only [KF.owner_class]
 repeat lk
 refine⟨Code.quiet_builtin _ (by ac_nf),Bp KF.entry_class ?_⟩;unfold Builtin.«object.__class__» shownTypeOf
 repeat lk
 exact q
theorem n1_ {M:Model} (Y:K.In h) (F:XC K C):Looks M h (find (.ref x) (.ref C) "__class__") (.bind (.builtin "getset_descriptor.__get__") (.builtin "object.__class__")):=by
 have L1:=looks_findIn (M:=M) Y F.ca;have L2:Looks M h (getOf (some (.builtin "object.__class__"))) (some (.builtin "getset_descriptor.__get__")):=looks_specialIn Y F.gn;have L3:=looks_takesIn (M:=M) Y F.tk;exact L1.andThen (L2.andThen ((show Looks M h (dataDescriptor? (some (.builtin "object.__class__")) (some (.builtin "getset_descriptor.__get__"))) (some (.builtin "getset_descriptor.__get__", .builtin "object.__class__")) from L3.andThen .now).andThen (Looks.tag .now)))
theorem mb_ {tk:Tok}{Q:Fin->Shared->Prop} (Y:K.In h) (F:XC K C) (LT:∀M:Model,Looks M h (typeOf (.ref x)) (.ref C)) (q:Q (.done (.ret (.ref C))) ⟨h,g,d,t,os⟩):
  wpAny (model prog w) A (Builtin.«object.__getattribute__» ⟨[.ref x, .str "__class__" tk],[]⟩) Q E ⟨h,g,d,t,os⟩:=by
 have L0:=LT (model prog w);have L1:=n1_ (x:=x) (M:=model prog w) Y F;refine A0 (A2 (A0 (A2 (A0 (L0.at (A0 (L1.at ?_)))))));show wpAny _ _ (holding [.builtin "object.__class__"] (call (.builtin "getset_descriptor.__get__") [.builtin "object.__class__", .ref x, .ref C])>>=ret) _ _ _;exact A0 (An (wpAny_call (pv_ Y F LT (A2 q))))
theorem mc_ {nameV:Value}{M:Model}{Q:Unit->Shared->Prop} (Y:K.In h) (F:XC K C) (LT:∀M:Model,Looks M h (typeOf (.ref x)) (.ref C)) (q:Q () ⟨h,g,d,t,os⟩):
  wpAny M A (checkBuiltinCall "BaseException.__getattribute__" ⟨[.ref x,nameV],[]⟩) Q E ⟨h,g,d,t,os⟩:=by
 have e1:builtinKind "BaseException.__getattribute__"=some .slot:=by ac_nf
 have e2:splitId "BaseException.__getattribute__"=some ("BaseException","__getattribute__"):=by ac_nf
 have ha:=PySem.F.args_bexc_ga (.ref x) nameV;have L0:=LT M;have L1:=looks_mroIn (M:=M) Y F.be;simp only [checkBuiltinCall,e1,e2];refine A0 ?_;unfold isInstance
 repeat (first|lk|wp_step)
 exact q
theorem n2_ {Q:Option Value->Shared->Prop} (Y:K.In h) (F:XC K C) (LT:∀M:Model,Looks M h (typeOf (.ref x)) (.ref C)) (q:Q (some (.ref C)) ⟨h,g,d,t+1,os⟩):wpAny (model prog w) A (getAttr? (.ref x) "__class__") Q E ⟨h,g,d,t,os⟩:=by
 have L0:=LT (model prog w);have L1:=looks_findIn (M:=model prog w) Y F.ga;have L2:=looks_findIn (M:=model prog w) Y F.gt;have e2:(Value.builtin "BaseException.__getattribute__"==Value.builtin "object.__getattribute__")=false:=by ac_nf
 have e1:(onTheHeap (Value.ref C)&&Value.builtin "BaseException.__getattribute__"==Value.builtin "object.__getattribute__")=false:=by rw [e2];rfl
 have f3:=PySem.F.excAttr_ValueError.ga.bind (.ref x);unfold getAttr? getAttrBy? getAttrBy;refine A0 (wpAny_mkText (A0 (C9 (An (A0 (L0.at (A0 (L1.at ?_))))))));dsimp only;rw [e1];simp only [AF,Ah]
 repeat (any_goals (first|assumption|with_reducible refine L2.at ?_|wp_step))
 refine codeAny_call_builtin PySem.F.excAttr_ValueError.ga.plain PySem.F.entry_bexc_ga (mc_ Y F LT (mb_ Y F LT ?_))
 repeat (any_goals (first|assumption|lk|wp_step))
theorem iV_ (F:XC K C):KitX K (.ref x) (.ref C) (fun h=>∃o,h.get? x=some o/\o.cls= .ref C) where
 ty:=fun _ _ _ ⟨_,e,c⟩=>hE_ e c
 it:=fun _ _ Y _=>by
  have z:=F.cl;unfold clsIn at z;split at z
  .rename_i ho;intro A' Q' E' s' k q;unfold isType loadHead;exact A0 (wpAny_loadPart (k _ _ (Y _ _ ho)) (A2 q))
  .cases z
 ne:=fun h tp dd its n sl Y htp=>by
  have z:=F.cl;unfold clsIn at z;split at z
  .rename_i ho;refine Bool.eq_false_iff.mpr fun q=> ?_;have e:C=tp:=Value.ref.inj (Cn.mp q);subst e;have y:=(Y _ _ ho).symm.trans htp;cases y
  .cases z
 ca:=fun{_ _ _ _ _ s} Y ⟨_,e,c⟩ k=>by
  obtain⟨hh,g,d,t,os⟩:=s;exact n2_ Y F (fun M=>hE_ e c) k
end
def je_ (C a:Addr):HO:= .ext fun h=>∃o,h.get? a=some o/\o.cls= .ref C
theorem o5_ {P:Program}{w:World}{H:Hp}{h:Heap}{a C:Addr} (e:∃o,h.get? a=some o/\o.cls= .ref C):aH_ P w H h a (je_ C a):=
 ⟨e,e.elim fun o q=>⟨o,q.1⟩,fun _ _ ⟨o,q,c⟩ k=>⟨o,k o q,c⟩⟩
def pt_:V->Option Value
 | .ty n=>some (.type n)
 | .ref c=>some (.ref c)
 |_=>none
theorem jl_ {v:V}{c u:Value} (e:pt_ v=some c) (r:aV_ v u):u=c:=by
 cases v<;>first|(cases e;exact r)|cases e
section
variable {X:Cx}
theorem nd_:b8_ X (.builtin "isinstance") (fun xs H Q=>∃a C v c b,xs=[.ref a,v]/\H a=some (je_ C a)/\XC X.K C/\pt_ v=some c/\kitOne X.K (.ref C) c=some b/\Q (.bl b) H):=by
 intro pins s σ H xs us Q I r h;obtain⟨a,C,v,c,b,rfl,ha,F,ev,e,q⟩:=h;obtain⟨u,w',rfl,ru,rw'⟩:=kd_ r;obtain rfl:u=Value.ref a:=ru;obtain rfl:=jl_ ev rw';exact kia_one (iV_ F) I.kIn (I.hok a _ ha).1 e (fun z=>nomatch z) fun tk=>⟨.bl b,H,I.tok tk,rfl,q⟩
theorem e1_ {K:Frag} (hK:X.K=K):b8_ X (.builtin "isinstance") (fun xs H Q=>∃a C v c b,xs=[.ref a,v]/\H a=some (je_ C a)/\XC K C/\pt_ v=some c/\kitOne K (.ref C) c=some b/\Q (.bl b) H):=hK▸nd_
theorem hh_:∀{vs:List V}{cs its:List Value},vs.mapM pt_=some cs->aP_ vs its->its=cs
 |[],_,_,e, .nil=>by cases e;rfl
 |v::vs,cs,_,e, .cons r t=>by
  rw [List.mapM_cons] at e;obtain⟨c,e1,e⟩:=Option.bind_eq_some_iff.mp e;obtain⟨cs',e2,e⟩:=Option.bind_eq_some_iff.mp e;cases e;rw [jl_ e1 r,hh_ e2 t]
theorem lY_:b8_ X (.builtin "isinstance") (fun xs H Q=>∃a C p vs cs b,xs=[.ref a, .ref p]/\H a=some (je_ C a)/\XC X.K C/\H p=some (.tup vs)/\vs.mapM pt_=some cs/\kitAny X.K (.ref C) cs=some b/\Q (.bl b) H):=by
 intro pins s σ H xs us Q I r h;obtain⟨a,C,p,vs,cs,b,rfl,ha,F,hp,ev,e,q⟩:=h;obtain⟨u,w',rfl,ru,rw'⟩:=kd_ r;obtain rfl:u=Value.ref a:=ru;obtain rfl:w'=Value.ref p:=rw';obtain⟨_,its,rv,⟨oc,od,dt,sl⟩,ho,hc,n,hd⟩:=(show aH_ X.prog X.w H s.heap p (.tup vs) from I.hok p _ hp);simp only at hc hd;subst hc hd;obtain rfl:=hh_ ev rv;exact kia_tup (iV_ F) I.kIn (I.hok a _ ha).1 ho e (fun z=>nomatch z) fun tk=>⟨.bl b,H,I.tok tk,rfl,q⟩
theorem jZ_ {K:Frag} (hK:X.K=K):b8_ X (.builtin "isinstance") (fun xs H Q=>∃a C p vs cs b,xs=[.ref a, .ref p]/\H a=some (je_ C a)/\XC K C/\H p=some (.tup vs)/\vs.mapM pt_=some cs/\kitAny K (.ref C) cs=some b/\Q (.bl b) H):=hK▸lY_
end
end L2
namespace L2
open PySem PySem.Spec PyProof.Rows PySem.W
abbrev Cx.inTry (X:Cx) (pn:List (Addr×Obj)) (z:Value->Shared->Prop):Cx:={X with pn:=pn,xe:=z}
abbrev Cx.inSuite (X:Cx) (e:Addr):Cx:={X with A:=X.A.mark (some (.ref e)),calm:=false,xe:=fun _ _=>False}
section
variable {X:Cx}{pins pn:List (Addr×Obj)}{σ:St}{H H':Hp}{s s':Shared}{z:Value->Shared->Prop}{e:Addr}
theorem Inv.toTry (I:Inv X pins σ H s):Inv (X.inTry (X.pn++pins) z) [] σ H s:=
 ⟨⟨I.ok.mod,I.ok.kind,I.ok.glob,I.ok.blt,I.ok.above,I.ok.inj,I.ok.has,I.ok.cab,I.ok.hd,I.ok.frames,I.ok.stk,I.ok.exf,I.ok.bs,I.ok.bsz,I.ok.noex,I.ok.exfs,I.ok.funs,I.ok.frf⟩,
  I.os,I.bare,I.base,I.loc,I.cell,I.free,I.freeC,fun p hp=>I.pin p (by rw [Ag] at hp;exact hp),I.hok,I.len⟩
theorem Inv.unTry {pins':List (Addr×Obj)} (I:Inv (X.inTry (X.pn++pins) z) pins' σ H s):Inv X pins σ H s:=
 ⟨⟨I.ok.mod,I.ok.kind,I.ok.glob,I.ok.blt,I.ok.above,I.ok.inj,I.ok.has,I.ok.cab,I.ok.hd,I.ok.frames,I.ok.stk,I.ok.exf,I.ok.bs,I.ok.bsz,I.ok.noex,I.ok.exfs,I.ok.funs,I.ok.frf⟩,
  I.os,I.bare,I.base,I.loc,I.cell,I.free,I.freeC,fun p hp=>I.pin p (List.mem_append_left _ hp),I.hok,I.len⟩
theorem Inv.toSuite (I:Inv X pins σ H s):Inv (X.inSuite e) pins σ H s:=
 ⟨⟨I.ok.mod,I.ok.kind,I.ok.glob,I.ok.blt,I.ok.above,I.ok.inj,I.ok.has,I.ok.cab,fun q=>absurd q AM,I.ok.frames,I.ok.stk,I.ok.exf,I.ok.bs,I.ok.bsz,I.ok.noex,I.ok.exfs,I.ok.funs,I.ok.frf⟩,
  I.os,I.bare,I.base,I.loc,I.cell,I.free,I.freeC,I.pin,I.hok,I.len⟩
theorem Inv.unSuite (hd:X.calm=true->X.A.handled=none) (I:Inv (X.inSuite e) pins σ H s):Inv X pins σ H s:=
 ⟨⟨I.ok.mod,I.ok.kind,I.ok.glob,I.ok.blt,I.ok.above,I.ok.inj,I.ok.has,I.ok.cab,hd,I.ok.frames,I.ok.stk,I.ok.exf,I.ok.bs,I.ok.bsz,I.ok.noex,I.ok.exfs,I.ok.funs,I.ok.frf⟩,
  I.os,I.bare,I.base,I.loc,I.cell,I.free,I.freeC,I.pin,I.hok,I.len⟩
theorem Inv.hold {C:Addr} (I:Inv X pins σ H s) (hn:H e=none) (hL:e≠X.env.locals) (hnew:X.s₀.heap.get? e=none/\(∀x c,X.env.cells.lookup x=some c->c≠e)/\(∀p∈X.pn++pins,p.1≠e)) (ho:∃o,s.heap.get? e=some o/\o.cls= .ref C):
  Inv X pins σ (upd H e (je_ C e)) s:=by
 obtain⟨n0,nc,np⟩:=hnew;have ne0:∀{b:Addr}{o:Obj},X.s₀.heap.get? b=some o->b≠e:=fun{b o} q z=>by rw [z,n0] at q;cases q
 have neh:∀{b:Addr}{o:HO},H b=some o->b≠e:=fun q=>aC_ q hn;refine⟨I.ok,I.os,I.bare,⟨I.base.keep,I.base.slot,fun b o q n hx=> ?_,I.base.there,fun b xs q=> ?_,fun b o u q=> ?_,fun b ps q=> ?_⟩,I.loc,I.cell, ?_,fun x c q=> ?_,fun p hp=> ?_,fun b o q=> ?_,I.len⟩
 .rw [ak_ (ne0 q)];exact I.base.free b o q n hx
 .have z:=I.base.tups b xs q;rw [ak_ (neh z)];exact z
 .have z:=I.base.frzs b o u q;rw [ak_ (neh z)];exact z
 .obtain⟨more,z⟩:=I.base.tbls b ps q;exact⟨more,by rw [ak_ (neh z)];exact z⟩
 .rw [ak_ (D3 hL)];exact I.free
 .rw [ak_ (nc x c q)];exact I.freeC x c q
 .obtain⟨a1,a2,a3⟩:=I.pin p hp;exact⟨a1,by rw [ak_ (np p hp)];exact a2,a3⟩
 .by_cases hb:b=e
  .subst hb;rw [ae_] at q;cases q;exact o5_ ho
  .rw [ak_ hb] at q;exact(I.hok b o q).stay (fun _ _ _ q=>q) (fun c q=>by rw [ak_ (neh q)];exact q) fun c xs q=>by rw [ak_ (neh q)];exact q
end
end L2
namespace L2
open PySem PySem.Spec PyProof.Rows
section
variable {X:Cx}{tg:Expr}
end
end L2
namespace L2
open PySem PySem.Spec PyProof.Rows
def be_ (H:Hp) (v:V):Prop:=(∃i,v= .int i)\/(∃b,v= .bl b)\/v= .non\/(∃x,v= .str x)\/(∃a xs,v= .ref a/\H a=some (.lst xs))\/(∃a xs,v= .ref a/\H a=some (.tup xs))
def isI (v:V):Bool:=match v with
 | .int _=>true
 |_=>false
def Within (lo hi:Int) (v:V):Prop:=∃i,v= .int i/\lo<=i/\i<=hi
theorem be_.mono {H H':Hp}{v:V} (s:al_ H H') (h:be_ H v):be_ H' v:=by
 rcases h with h|h|h|h|⟨a,xs,e,h⟩|⟨a,xs,e,h⟩
 .exact .inl h
 .exact .inr (.inl h)
 .exact .inr (.inr (.inl h))
 .exact .inr (.inr (.inr (.inl h)))
 .exact .inr (.inr (.inr (.inr (.inl ⟨a,xs,e,s _ _ h⟩))))
 .exact .inr (.inr (.inr (.inr (.inr ⟨a,xs,e,s _ _ h⟩))))
theorem jr_ {lo hi:Int}{v:V} (h:Within lo hi v):isI v=true:=by obtain⟨i,rfl,_⟩:=h;rfl
theorem g1_ {K:W.Frag}:W.kitOne K (.type "NoneType") (.type "int")=some false:=fr_ (by ac_nf) (by ac_nf) (by ac_nf)
theorem h8_ {K:W.Frag}:W.kitOne K (.type "str") (.type "int")=some false:=fr_ (by ac_nf) (by ac_nf) (by ac_nf)
theorem g2_ {K:W.Frag}:W.kitOne K (.type "list") (.type "int")=some false:=fr_ (by ac_nf) (by ac_nf) (by ac_nf)
theorem gb_ {K:W.Frag}:W.kitOne K (.type "tuple") (.type "int")=some false:=fr_ (by ac_nf) (by ac_nf) (by ac_nf)
def ml_:Sp:=fun vs H Q _=>∃v,vs=[v]/\be_ H v/\Q (.bl (isI v)) H
end L2
namespace L2
open PySem PySem.Spec PyProof.Rows
section
variable {X:Cx}{pins:List (Addr×Obj)}{σ:St}{H:Hp}{s:Shared}{h':Heap}{ch:List Addr}{t':Nat}
theorem hD_.chs (hf:∀b∈ch,hD_ X pins H b):∀b∈ch,(b∈X.ex\/X.s₀.heap.objs.size<=b)/\b≠X.env.locals/\(∀x c,X.env.cells.lookup x=some c->c≠b)/\∀p∈X.pn++pins,p.1≠b:=fun b hb=>by
 obtain⟨_,a2,_,a4,a5,a6⟩:=hf b hb;exact⟨a4,a2,a5,a6⟩
theorem Inv.turnAll (I:Inv X pins σ H s) (hf:∀b∈ch,hD_ X pins H b) (k:∀b o,b∉ch->s.heap.get? b=some o->h'.get? b=some o):Inv X pins σ H {s with heap:=h',toks:=t'}:=by
 have nin:∀{b u},H b=some u->b∉ch:=fun e z=>by rw [(hf _ z).1] at e;cases e
 refine I.step (g':=s.gens) (d':=s.drawn) (ch:=ch) (hD_.chs hf) (fun b o _ _ c e _=>k b o c e) (fun b o _ _ c e _=>⟨o.slots,k b o c e⟩) (fun _ _ _ _ n=>n) (fun b o c e=>⟨o,k b o c e⟩) (fun _ _ e=>e) (fun _ _ _ e=>e) (fun b ps e=>⟨#[],by rw [e];simp⟩) (fun m hm=> ?_) (fun b u e=> ?_) I.bare
 .obtain⟨o,es,ep,ho,r⟩:=hm;exact⟨o,es,ep,k _ o (fun z=>(hf _ z).2.1 rfl) ho,r⟩
 .refine(I.hok b u e).stay (fun c v hc q=>k c v ?_ q) (fun _ q=>q) fun _ _ q=>q;rcases hc with z|z
  .rw [z];exact nin e
  .exact nin z
theorem Inv.turnNew {o:HO} (I:Inv X pins σ H s) (hf:∀b∈ch,hD_ X pins H b) (k:∀b ob,b∉ch->s.heap.get? b=some ob->h'.get? b=some ob) (new:aH_ X.prog X.w (upd H s.heap.objs.size o) h' s.heap.objs.size o):
  Inv X pins σ (upd H s.heap.objs.size o) {s with heap:=h',toks:=t'}:=by
 have nf:H s.heap.objs.size=none:=I.hok.fresh (A7 _);have nin:∀{b u},H b=some u->b∉ch:=fun e z=>by rw [(hf _ z).1] at e;cases e
 refine I.step (g':=s.gens) (d':=s.drawn) (ch:=ch) (hD_.chs hf) (fun b o _ _ c e _=>k b o c e) (fun b o _ _ c e _=>⟨o.slots,k b o c e⟩) (fun b ob c e n=> ?_) (fun b o c e=>⟨o,k b o c e⟩) (fun b ys e=> ?_) (fun b o u e=> ?_) (fun b ps e=>⟨#[], ?_⟩) (fun m hm=> ?_) (fun b u e=> ?_) I.bare
 .rw [ak_ (AJ (AG e))];exact n
 .rw [ak_ (aC_ e nf)];exact e
 .rw [ak_ (aC_ e nf)];exact e
 .rw [ak_ (aC_ e nf),e];simp
 .obtain⟨o,es,ep,ho,r⟩:=hm;exact⟨o,es,ep,k _ o (fun z=>(hf _ z).2.1 rfl) ho,r⟩
 .by_cases hb:b=s.heap.objs.size
  .subst hb;rw [ae_] at e;cases e;exact new
  .rw [ak_ hb] at e;refine(I.hok b u e).stay (fun c v hc q=>k c v ?_ q) (fun c q=> ?_) fun c ys q=> ?_
   .rcases hc with z|z
    .rw [z];exact nin e
    .exact nin z
   .rw [ak_ (aC_ q nf)];exact q
   .rw [ak_ (aC_ q nf)];exact q
end
section
variable {X:Cx}{elts:List Expr}{k:Nat}{tpos p pos:Pos}{e f:Expr}{te tf:TE}
end
theorem eA_ {K:W.Frag}:q4_ 2 (qE_ K 2 (id_ (d7_ 0) (id_ (d7_ 1) ra_))):=by
 intro v σ H Q ⟨a,xs,e,hq,hl,x,r,ex,y,r2,er,en,q⟩;refine⟨a,xs,e,hq,hl,x,r,ex,y,r2,er,en,q, ?_,fun i hi=> ?_⟩
 .rw [Ba,Ba]
 .rw [C2 (by lia),C2 (by lia)]
theorem eI_ {K:W.Frag}:∀(σ:St) (H:Hp) (R R':St->Hp->Prop) (x:V),(∀σ' H',R σ' H'->R' σ' H')->qE_ K 2 (id_ (d7_ 0) (id_ (d7_ 1) ra_)) x σ H R->qE_ K 2 (id_ (d7_ 0) (id_ (d7_ 1) ra_)) x σ H R':=
 fun σ H R R' v k ⟨a,xs,e,hq,hl,x,r,ex,y,r2,er,en,q⟩=>⟨a,xs,e,hq,hl,x,r,ex,y,r2,er,en,k _ _ q⟩
theorem hT_ {X:Cx}{es:List Expr}{k:Nat}{pos:Pos}{t:TGs}{n:Nat}{K:W.Frag} (hK:X.K=K) (hc:X.calm=true) (h:PGs X es t)
  (hn:(assignEach es X.env).length=n:=by rfl) (hst:(assignEach es X.env).findIdx? (·.1)=none:=by rfl):PG X (.Tuple es k pos) (qE_ K n t):=hK▸bM_ hc h hn hst
end L2
namespace PySem.SeqAt
open AutoSeq1 (wpAny_loadPart')
open MeetsSeq MeetsSeq2 MeetsSeq3 SeqRoads2
def LtAt (A:Around) (s:Shared) (y x:Value) (b:Bool):Prop:=
 ∀(prog:Program) (w:World) (E:Value->Shared->Prop) (Q:Value->Shared->Prop),Q (.bool b) s->wpAny (model prog w) A (richCompare .Lt y x) Q E s
def lex (e f:Nat->Bool) (m n:Nat):Nat->Nat->Bool
 |0,_=>decide (m<n)
 |k+1,i=>if e i=true then lex e f m n k (i+1) else f i
theorem lc_ (l b:Addr) (items items2:Array Value) (n n2:Nat) (dd dd2:Option Addr) (sl sl2:Array (Option Value)) (e f:Nat->Bool) (k:Nat):
  ∀i:Nat,min items.size items2.size-i=k->Meets (Builtin.«list.__eq__.loop» ⟨[.ref l, .ref b,rawInt i,rawInt 0],[]⟩)
   (fun A R s=>s.heap.get? l=some {cls:= .type "list",dict:=dd,data:= .seq items n,slots:=sl}/\s.heap.get? b=some {cls:= .type "list",dict:=dd2,data:= .seq items2 n2,slots:=sl2}/\
    (∀j (h1:j<items.size) (h2:j<items2.size),EqAt A.in1 s items[j] items2[j] (e j))/\(∀j (h1:j<items.size) (h2:j<items2.size),e j=false->LtAt A.in1 s items[j] items2[j] (f j))/\
    R (.ok (.ret (.bool (lex e f items.size items2.size k i)))) s):=by
 induction k with
 |zero=>
  intro i hk prog w A R s h;obtain⟨hp,g,d,tk,os⟩:=s;obtain⟨hl,hb,he,hf,h⟩:=h
  wp_walk using wpAny_loadPart' hl,CK hb
  rcases(by lia:items.size<=i\/(i<items.size/\items2.size<=i)) with q|⟨q1,q2⟩
  .have hi1:items[((i:Nat):Int).toNat]? =none:=by simp;lia
   rw [hi1]
   wp_walk using wpAny_loadPart' hl,CK hb
   exact h
  .have hi1:items[((i:Nat):Int).toNat]? =some items[i]:=by simp [q1]
   have hi2:items2[((i:Nat):Int).toNat]? =none:=by simp;lia
   rw [hi1,hi2]
   wp_walk using wpAny_loadPart' hl,CK hb
   exact h
 |succ k ih=>
  intro i hk prog w A R s h;obtain⟨hp,g,d,tk,os⟩:=s;obtain⟨hl,hb,he,hf,h⟩:=h
  wp_walk using wpAny_loadPart' hl,CK hb
  have hlt:i<items.size:=by lia
  have hlt2:i<items2.size:=by lia
  have hi1:items[((i:Nat):Int).toNat]? =some items[i]:=by simp [hlt]
  have hi2:items2[((i:Nat):Int).toNat]? =some items2[i]:=by simp [hlt2]
  have hc:((i:Int)+1)=((i+1:Nat):Int):=by push_cast;rfl
  unfold lex at h;rw [hi1,hi2];refine A0 (he i hlt hlt2 prog w _ _ ?_);cases hb':e i with
  |true=>
   rw [hb',AA rfl] at h
   wp_walk
   rw [hc];exact⟨D8 plain_eq_loop _,Bp entry_eq_loop (by
    rw [Bk plain_eq_loop _];exact ih (i+1) (by lia) prog w A R _ ⟨hl,hb,he,hf,h⟩)⟩
  |false=>
   rw [hb',A9 (by simp)] at h
   wp_walk using wpAny_loadPart' hl,CK hb
   rw [hi1,hi2];refine A0 (hf i hlt hlt2 hb' prog w _ _ ?_)
   wp_walk
   exact h
theorem gV_ (l b:Addr) (items items2:Array Value) (n n2:Nat) (dd dd2:Option Addr) (sl sl2:Array (Option Value)) (e f:Nat->Bool):
  Meets (Builtin.«list.__lt__» ⟨[.ref l, .ref b],[]⟩)
   (fun A R s=>s.heap.get? l=some {cls:= .type "list",dict:=dd,data:= .seq items n,slots:=sl}/\s.heap.get? b=some {cls:= .type "list",dict:=dd2,data:= .seq items2 n2,slots:=sl2}/\
    (∀j (h1:j<items.size) (h2:j<items2.size),EqAt A.in1 s items[j] items2[j] (e j))/\(∀j (h1:j<items.size) (h2:j<items2.size),e j=false->LtAt A.in1 s items[j] items2[j] (f j))/\
    R (.ok (.ret (.bool (lex e f items.size items2.size (min items.size items2.size) 0)))) s):=by
 intro prog w A R s h;obtain⟨hp,g,d,tk,os⟩:=s;obtain⟨hl,hb,he,hf,h⟩:=h;have f3:=AutoSeq1.sub_list_list
 wp_walk using wpAny_loadPart' hl,CK hb
 exact⟨D8 plain_eq_loop _,Bp entry_eq_loop (by
  rw [Bk plain_eq_loop _];exact lc_ l b items items2 n n2 dd dd2 sl sl2 e f _ 0 rfl prog w A R _ ⟨hl,hb,he,hf,by simpa using h⟩)⟩
theorem jv_ (l b:Addr) (items items2:Array Value) (n n2:Nat) (dd dd2:Option Addr) (sl sl2:Array (Option Value)) (e f:Nat->Bool):
  Meets (Builtin.«tuple.__lt__» ⟨[.ref l, .ref b],[]⟩)
   (fun A R s=>s.heap.get? l=some {cls:= .type "tuple",dict:=dd,data:= .seq items n,slots:=sl}/\s.heap.get? b=some {cls:= .type "tuple",dict:=dd2,data:= .seq items2 n2,slots:=sl2}/\
    (∀j (h1:j<items.size) (h2:j<items2.size),EqAt A.in1 s items[j] items2[j] (e j))/\(∀j (h1:j<items.size) (h2:j<items2.size),e j=false->LtAt A.in1 s items[j] items2[j] (f j))/\
    R (.ok (.ret (.bool (lex e f items.size items2.size (min items.size items2.size) 0)))) s):=
 .of_wp fun prog w A R s h=>by
  obtain⟨hp,g,d,tk,os⟩:=s;obtain⟨hl,hb,he,hf,h⟩:=h;have f2:=AutoSeq1.sub_tuple_tuple;have hZ:(items.toList.zip items2.toList).length=min items.size items2.size:=by simp
  wp_walk using wpAny_loadPart' hl,CK hb,Bu _ (fun ci_ b s'=>b.1=none/\s'=⟨hp,g,d,tk,os⟩/\∃i,ci_=(items.toList.zip items2.toList).drop i/\i<=min items.size items2.size/\
   R (.ok (.ret (.bool (lex e f items.size items2.size (min items.size items2.size-i) i)))) ⟨hp,g,d,tk,os⟩) _
  case turn=>
   rintro⟨y,x⟩ ci_ b s' ⟨hb',rfl,i,hz,hile,hR⟩;have hlt:i<(items.toList.zip items2.toList).length:=by
    rcases Bl i (items.toList.zip items2.toList).length with h'|h'
    .exact h'
    .rw [List.drop_of_length_le h'] at hz;cases hz
   have hm:i<min items.size items2.size:=hZ▸hlt;have h1:i<items.size:=AX hm (Nat.min_le_left _ _);have h2:i<items2.size:=AX hm (Nat.min_le_right _ _);rw [Bb hlt] at hz;injection hz with hyx hrest;have hy:y=items[i]:=by have:=Be Prod.fst hyx;simpa using this
   have hx:x=items2[i]:=by have:=Be Prod.snd hyx;simpa using this
   subst hy hx;rw [show min items.size items2.size-i=(min items.size items2.size-(i+1))+1 by lia,lex] at hR;refine A0 (he i h1 h2 prog w _ _ ?_);cases hy:e i with
   |true=>
    rw [hy,AA rfl] at hR
    wp_walk
    exact⟨rfl,rfl,i+1,hrest,by lia,hR⟩
   |false=>
    rw [hy,A9 (by simp)] at hR;rw [AA (show(!false)=true from rfl)];refine A0 (D1 ?_);refine A0 (hf i h1 h2 hy prog w _ _ ?_)
    wp_walk
    exact⟨_,rfl,hR⟩
  case fin=>
   rintro⟨b1,b2⟩ s' ⟨hb',rfl,i,hz,hile,hR⟩;simp only at hb';subst hb';have hi:i=min items.size items2.size:=by
    rcases Bl i (items.toList.zip items2.toList).length with h'|h'
    .rw [Bb h'] at hz;cases hz
    .lia
   subst hi;rw [Ce] at hR
   wp_walk
   exact⟨_,rfl,hR⟩
  case h=>
   exact⟨rfl,rfl,0,rfl,AK _,by simpa using h⟩
section
variable {A:Around}{s:Shared}
theorem LtAt.int_int (i:Int) (t:Tok) (j:Int) (u:Tok):LtAt A s (.int i t) (.int j u) (decide (i<j)):=fun prog w E Q h=>wpAny_lt_int h
theorem LtAt.lists {l b:Addr}{items items2:Array Value}{e f:Nat->Bool} (hl:s.heap.IsList l items) (hb:s.heap.IsList b items2) (hu:A.units<cLine)
  (he:∀j (h1:j<items.size) (h2:j<items2.size),EqAt A.in1 s items[j] items2[j] (e j)) (hf:∀j (h1:j<items.size) (h2:j<items2.size),e j=false->LtAt A.in1 s items[j] items2[j] (f j)):
  LtAt A s (.ref l) (.ref b) (lex e f items.size items2.size (min items.size items2.size) 0):=fun prog w E Q h=>by
 obtain⟨⟨cls,dd,data,sl⟩,ho,hc,n,hd⟩:=id hl;obtain⟨⟨cls2,dd2,data2,sl2⟩,ho2,hc2,n2,hd2⟩:=id hb;simp only at hc hd hc2 hd2;subst hc hd hc2 hd2;exact richCompare_meets_room (op:= .Lt) ⟨_,ho,rfl⟩ ⟨_,ho2,rfl⟩ F.slot_list_lt F.entry_list_lt (F.args_list_lt_2 _ _) (gV_ l b items items2 n n2 dd dd2 sl sl2 e f)
  ⟨ho,ho2,he,hf,show Value.bool (lex e f items.size items2.size (min items.size items2.size) 0)≠Value.notImplemented/\Q (.bool (lex e f items.size items2.size (min items.size items2.size) 0)) s from⟨(fun x=>nomatch x),h⟩⟩ hu
theorem LtAt.tuples {l b:Addr}{items items2:Array Value}{e f:Nat->Bool} (hl:s.heap.IsTuple l items) (hb:s.heap.IsTuple b items2) (hu:A.units<cLine)
  (he:∀j (h1:j<items.size) (h2:j<items2.size),EqAt A.in1 s items[j] items2[j] (e j)) (hf:∀j (h1:j<items.size) (h2:j<items2.size),e j=false->LtAt A.in1 s items[j] items2[j] (f j)):
  LtAt A s (.ref l) (.ref b) (lex e f items.size items2.size (min items.size items2.size) 0):=fun prog w E Q h=>by
 obtain⟨⟨cls,dd,data,sl⟩,ho,hc,n,hd⟩:=id hl;obtain⟨⟨cls2,dd2,data2,sl2⟩,ho2,hc2,n2,hd2⟩:=id hb;simp only at hc hd hc2 hd2;subst hc hd hc2 hd2;exact richCompare_meets_room (op:= .Lt) ⟨_,ho,rfl⟩ ⟨_,ho2,rfl⟩ F.slot_tuple_lt F.entry_tuple_lt (F.args_tuple_lt_2 _ _) (jv_ l b items items2 n n2 dd dd2 sl sl2 e f)
  ⟨ho,ho2,he,hf,show Value.bool (lex e f items.size items2.size (min items.size items2.size) 0)≠Value.notImplemented/\Q (.bool (lex e f items.size items2.size (min items.size items2.size) 0)) s from⟨(fun x=>nomatch x),h⟩⟩ hu
theorem key_lists {prog:Program}{w:World}{E:Value->Shared->Prop}{l b:Addr}{items items2:Array Value}{e f:Nat->Bool}{Q:Bool->Shared->Prop} (hl:s.heap.IsList l items) (hb:s.heap.IsList b items2) (hu:A.units<cLine)
  (he:∀j (h1:j<items.size) (h2:j<items2.size),EqAt A.in1 s items[j] items2[j] (e j)) (hf:∀j (h1:j<items.size) (h2:j<items2.size),e j=false->LtAt A.in1 s items[j] items2[j] (f j))
  (h:Q (lex e f items.size items2.size (min items.size items2.size) 0) s):wpAny (model prog w) A (PyProof.Rows.keyLt' PyProof.Rows.oneType' (.ref l) (.ref b)) Q E s:=by
 rw [PyProof.Rows.keyLt'_oneType,PyProof.Rows.oneLt'_eq];simp only [Bz];refine A0 (wpAny_cRoomFor hu ?_);obtain⟨⟨cls,dd,data,sl⟩,ho,hc,n,hd⟩:=id hl;obtain⟨⟨cls2,dd2,data2,sl2⟩,ho2,hc2,n2,hd2⟩:=id hb;simp only at hc hd hc2 hd2;subst hc hd hc2 hd2;refine A0 (wpAny_callSpecialIfBound?_slot (T:="list") ⟨_,ho,rfl⟩ F.slot_list_lt (DG F.slot_list_lt ⟨_,ho,rfl⟩ F.entry_list_lt (F.args_list_lt_2 _ _) (gV_ l b items items2 n n2 dd dd2 sl sl2 e f) ⟨ho,ho2,he,hf, ?_⟩));exact Bc h
end
end PySem.SeqAt
namespace L2
open PySem PySem.Spec PyProof.Rows
inductive LtR (K:W.Frag) (H:Hp):Nat->V->V->Bool->Prop where
 |int (d:Nat) (i j:Int):LtR K H d (.int i) (.int j) (decide (i<j))
 |lists {d:Nat}{a b:Addr}{xs ys:List V} (es fs:Nat->Bool) (h1:SqL K H a xs) (h2:SqL K H b ys) (he:∀(j:Nat) x y,xs[j]? =some x->ys[j]? =some y->EqR K H d x y (es j)) (hf:∀(j:Nat) x y,xs[j]? =some x->ys[j]? =some y->es j=false->LtR K H d x y (fs j)):
  LtR K H (d+1) (.ref a) (.ref b) (SeqAt.lex es fs xs.length ys.length (min xs.length ys.length) 0)
 |tuples {d:Nat}{a b:Addr}{xs ys:List V} (es fs:Nat->Bool) (h1:SqT K H a xs) (h2:SqT K H b ys) (he:∀(j:Nat) x y,xs[j]? =some x->ys[j]? =some y->EqR K H d x y (es j)) (hf:∀(j:Nat) x y,xs[j]? =some x->ys[j]? =some y->es j=false->LtR K H d x y (fs j)):
  LtR K H (d+1) (.ref a) (.ref b) (SeqAt.lex es fs xs.length ys.length (min xs.length ys.length) 0)
section
variable {X:Cx}{pins:List (Addr×Obj)}{σ:St}{H:Hp}{s:Shared}
theorem cj_ {xs:List V}{is:List Value}{j:Nat} (r:aP_ xs is) (q:j<is.toArray.size):∃x,xs[j]? =some x/\aV_ x is.toArray[j]:=by
 have l:=r.length;have q':j<is.length:=by simpa using q
 have hx:xs[j]? =some xs[j]:=A3 (by lia);obtain⟨u,e,ru⟩:=r.get hx;refine⟨_,hx, ?_⟩;have g:is.toArray[j]=u:=by
  rw [A3 q'] at e;simpa using Option.some.inj e
 rw [g];exact ru
theorem LtR.at_ (I:Inv X pins σ H s) {d:Nat}{x y:V}{b:Bool} (h:LtR X.K H d x y b):∀{A:Around}{u v:Value},A.units+d<cLine->aV_ x u->aV_ y v->SeqAt.LtAt A s u v b:=by
 induction h with
 |int d i j=>
  intro A u v hu ru rv;obtain⟨t,rfl⟩:=ru;obtain⟨t',rfl⟩:=rv;exact SeqAt.LtAt.int_int i t j t'
 | @lists d a b xs ys es fs h1 h2 he hf ih=>
  intro A u v hu ru rv;obtain rfl:u=Value.ref a:=ru;obtain rfl:v=Value.ref b:=rv;obtain⟨is,r1,p1,z1⟩:=I.list h1;obtain⟨js,r2,p2,z2⟩:=I.list h2;have l1:xs.length=is.toArray.size:=by have:=r1.length;simpa using this
  have l2:ys.length=js.toArray.size:=by have:=r2.length;simpa using this
  rw [l1,l2];refine SeqAt.LtAt.lists p1.isList p2.isList (by lia) (fun j q1 q2=> ?_) (fun j q1 q2 z=> ?_)
  .obtain⟨x,hx,rx⟩:=cj_ r1 q1;obtain⟨y,hy,ry⟩:=cj_ r2 q2;exact((he j _ _ hx hy).at_ I (by rw [aK_];lia) rx ry).2.2
  .obtain⟨x,hx,rx⟩:=cj_ r1 q1;obtain⟨y,hy,ry⟩:=cj_ r2 q2;exact ih j _ _ hx hy z (by rw [aK_];lia) rx ry
 | @tuples d a b xs ys es fs h1 h2 he hf ih=>
  intro A u v hu ru rv;obtain rfl:u=Value.ref a:=ru;obtain rfl:v=Value.ref b:=rv;obtain⟨is,r1,p1,z1⟩:=I.tuple h1;obtain⟨js,r2,p2,z2⟩:=I.tuple h2;have l1:xs.length=is.toArray.size:=by have:=r1.length;simpa using this
  have l2:ys.length=js.toArray.size:=by have:=r2.length;simpa using this
  rw [l1,l2];refine SeqAt.LtAt.tuples (show s.heap.IsTuple a is.toArray from p1) (show s.heap.IsTuple b js.toArray from p2) (by lia) (fun j q1 q2=> ?_) (fun j q1 q2 z=> ?_)
  .obtain⟨x,hx,rx⟩:=cj_ r1 q1;obtain⟨y,hy,ry⟩:=cj_ r2 q2;exact((he j _ _ hx hy).at_ I (by rw [aK_];lia) rx ry).2.2
  .obtain⟨x,hx,rx⟩:=cj_ r1 q1;obtain⟨y,hy,ry⟩:=cj_ r2 q2;exact ih j _ _ hx hy z (by rw [aK_];lia) rx ry
theorem LtR.key (I:Inv X pins σ H s) {d:Nat}{a b:Addr}{xs ys:List V}{es fs:Nat->Bool} (h1:SqL X.K H a xs) (h2:SqL X.K H b ys) (he:∀(j:Nat) x y,xs[j]? =some x->ys[j]? =some y->EqR X.K H d x y (es j)) (hf:∀(j:Nat) x y,xs[j]? =some x->ys[j]? =some y->es j=false->LtR X.K H d x y (fs j))
  {A:Around} (hu:A.units+(d+1)<cLine) {prog:Program}{w:World}{E:Value->Shared->Prop}{Q:Bool->Shared->Prop} (q:Q (SeqAt.lex es fs xs.length ys.length (min xs.length ys.length) 0) s):
  wpAny (model prog w) A (keyLt' oneType' (.ref a) (.ref b)) Q E s:=by
 obtain⟨is,r1,p1,z1⟩:=I.list h1;obtain⟨js,r2,p2,z2⟩:=I.list h2;have l1:xs.length=is.toArray.size:=by have:=r1.length;simpa using this
 have l2:ys.length=js.toArray.size:=by have:=r2.length;simpa using this
 rw [l1,l2] at q;refine SeqAt.key_lists p1.isList p2.isList (by lia) (fun j q1 q2=> ?_) (fun j q1 q2 z=> ?_) q
 .obtain⟨x,hx,rx⟩:=cj_ r1 q1;obtain⟨y,hy,ry⟩:=cj_ r2 q2;exact((he j _ _ hx hy).at_ I (by rw [aK_];lia) rx ry).2.2
 .obtain⟨x,hx,rx⟩:=cj_ r1 q1;obtain⟨y,hy,ry⟩:=cj_ r2 q2;exact(hf j _ _ hx hy z).at_ I (by rw [aK_];lia) rx ry
end
end L2
namespace L2
open PySem PySem.Spec PyProof.Rows
section
variable {X:Cx}
def ipM:TIp:=fun x y H Q=>∃i j,x= .int i/\y= .int j/\rc_ i j/\Q (.int (i*j)) H
theorem ia_:PIp X .Mult ipM:=by
 intro pins s σ H x y v u Q I r1 r2 h;obtain⟨i,j,e1,e2,c,q⟩:=h;subst e1;subst e2;obtain⟨t,rfl⟩:=r1;obtain⟨t',rfl⟩:=r2;exact imul_int ⟨.int _,H,I.tok _,⟨_,rfl⟩,q⟩ c.ok
end
end L2
namespace L2
open PySem PySem.Spec PyProof.Rows
section
variable {X:Cx}{a b:Expr}{ta:TA}{p1 p2 p3 pos:Pos}
end
end L2
namespace L2
open PySem PySem.Spec PyProof.Rows
def tI (xs:List Int):D:= .t (xs.map .i)
theorem ef_ {H:Hp}:∀{xs:List Int}{vs:List V},Iss H (xs.map .i) vs->vs=xs.map V.int
 |[],vs,h=>h
 |x::xs,vs,h=>by
  obtain⟨u,us,rfl,h1,h2⟩:=h;rw [c5_ h1,ef_ h2];rfl
theorem eg_ {H:Hp}:∀(xs:List Int),Iss H (xs.map .i) (xs.map V.int)
 |[]=>rfl
 |x::xs=>⟨_,_,rfl,d1_,eg_ xs⟩
theorem cg_ {H:Hp}{xs:List Int}{v:V} (h:Is H (tI xs) v):∃a,v= .ref a/\H a=some (.tup (xs.map V.int)):=by
 obtain⟨a,vs,rfl,ha,hi⟩:=fV_ h;rw [ef_ hi] at ha;exact⟨a,rfl,ha⟩
theorem h9_ {H:Hp}{xs:List Int}{a:Addr} (h:H a=some (.tup (xs.map V.int))):Is H (tI xs) (.ref a):=fs_ h (eg_ xs)
end L2
namespace L2
open PySem PySem.Spec PyProof.Rows PySem.W
section
variable {n:Nat}
def Ord (n:Nat) (p:Array Nat):Prop:=p.Perm (List.range n).toArray
theorem Ord.size {p:Array Nat} (h:Ord n p):p.size=n:=by
 have:=(CM.mp h).length_eq;simpa using this
theorem Ord.lt {p:Array Nat} (h:Ord n p) {i:Nat} (hi:i∈p.toList):i<n:=by
 have:=(CM.mp h).mem_iff.mp hi;simpa using this
theorem Ord.bubble {p:Array Nat} (h:Ord n p) (i j:Nat):Ord n (PyProof.Rows.bubble p i j):=(bubble_perm p i j).trans h
theorem Ord.kas {p:Array Nat} (h:Ord n p) (i j:Nat):Ord n (kas_rev p i j):=(mirror_perm p i j _).trans h
theorem Ord.getD {p:Array Nat} (h:Ord n p) (hn:0<n) (i:Nat):p.getD i 0<n:=by
 by_cases hi:i<p.size
 .have e:p.getD i 0=p[i]:=by simp [Array.getD,hi]
  rw [e];exact h.lt (by simp)
 .have e:p.getD i 0=0:=by simp [Array.getD,hi]
  rw [e];exact hn
def aY_ (n:Nat) {α:Type} (R:α->Prop):KasT α->Prop
 | .ret a=>R a
 | .ask i j k=>i<n/\j<n/\∀b,aY_ n R (k b)
theorem aY_.bind {α β:Type}{R:α->Prop}{R':β->Prop}{f:α->KasT β} (hf:∀a,R a->aY_ n R' (f a)):∀{t:KasT α},aY_ n R t->aY_ n R' (t.bind f)
 | .ret a,h=>hf a h
 | .ask i j k,h=>⟨h.1,h.2.1,fun b=>aY_.bind hf (h.2.2 b)⟩
theorem aY_.wp {α:Type}{R:α->Prop}{cmp:Nat->Nat->(Bool->Shared->Prop)->Shared->Prop}{Q:α->Shared->Prop}{s:Shared} (hc:∀i j,i<n->j<n->∃b,∀C:Bool->Shared->Prop,C b s->cmp i j C s) (hq:∀a,R a->Q a s):∀{t:KasT α},aY_ n R t->t.kasWp cmp Q s
 | .ret a,h=>hq a h
 | .ask i j k,h=>by
  obtain⟨b,hb⟩:=hc i j h.1 h.2.1;exact hb _ (aY_.wp hc hq (h.2.2 b))
variable (hn:0<n)
include hn
theorem lb_ {p:Array Nat} (h:Ord n p):∀f m,aY_ n (fun _=>True) (kas_asc p f m)
 |0,m=>trivial
 |f+1,m=>⟨h.getD hn _,h.getD hn _,fun b=>by
  cases b with
  |true=>exact trivial
  |false=>exact lb_ h f (m+1)⟩
theorem f2_:∀(f:Nat) (p:Array Nat) (m q:Nat),Ord n p->aY_ n (fun r=>Ord n r.1) (kas_desc f p m q)
 |0,p,m,q,h=>h
 |f+1,p,m,q,h=>⟨h.getD hn _,h.getD hn _,fun b=>by
  cases b with
  |true=>
   show aY_ n _ (if q>0 then kas_desc f (kas_rev p (m-(q+1)) m) (m+1) 0 else kas_desc f p (m+1) 0);by_cases hq:q>0
   .rw [AA hq];exact f2_ f _ _ _ (h.kas _ _)
   .rw [A9 hq];exact f2_ f _ _ _ h
  |false=>
   refine(show aY_ n _ (KasT.ask (p.getD (m-1) 0) (p.getD m 0) fun d=>if d=true then KasT.ret (p,m,q) else kas_desc f p (m+1) (q+1)) from⟨h.getD hn _,h.getD hn _,fun b=> ?_⟩);cases b with
   |true=>exact h
   |false=>exact f2_ f _ _ _ h⟩
theorem k8_ {p:Array Nat} (h:Ord n p) (m k:Nat):aY_ n (fun r=>Ord n r.2) (kas_tail3 m k p):=by
 unfold kas_tail3;refine aY_.bind (fun a _=> ?_) (lb_ hn (h.kas 0 m) _ _);exact h.kas 0 m
theorem la_ {p:Array Nat} (h:Ord n p) (m k:Nat):aY_ n (fun r=>Ord n r.2) (kas_descPart m k p):=by
 refine(f2_ hn _ _ _ _ h).bind fun r hr=> ?_;by_cases hq:r.2.2>0
 .rw [AA hq];exact k8_ hn (hr.kas _ _) _ _
 .rw [A9 hq];exact k8_ hn hr _ _
theorem mP_ {p:Array Nat} (h:Ord n p) (k:Nat):aY_ n (fun r=>Ord n r.2) (kas_count k p):=by
 refine(lb_ hn h _ _).bind fun m _=> ?_;by_cases h1:(m==k)=true
 .rw [AA h1];exact h
 .rw [A9 h1];by_cases h2:m>1
  .rw [AA h2];refine⟨h.getD hn _,h.getD hn _,fun b=> ?_⟩;cases b with
   |true=>exact h
   |false=>exact la_ hn (h.kas _ _) _ _
  .rw [A9 h2];exact la_ hn h _ _
theorem f1_ {p:Array Nat} (h:Ord n p) (k:Nat):∀f l r,aY_ n (fun _=>True) (kas_place p k f l r)
 |0,l,r=>trivial
 |f+1,l,r=>by
  unfold kas_place;by_cases h1:l>=r
  .rw [AA h1];exact trivial
  .rw [A9 h1];refine⟨h.getD hn _,h.getD hn _,fun b=> ?_⟩;cases b with
   |true=>exact f1_ h k f _ _
   |false=>exact f1_ h k f _ _
theorem nF_:∀(f:Nat) (p:Array Nat) (k:Nat),Ord n p->aY_ n (Ord n) (kas_bin f p k)
 |0,p,k,h=>h
 |f+1,p,k,h=>(f1_ hn h k _ _ _).bind fun l _=>nF_ f _ _ (h.bubble _ _)
theorem k9_:aY_ n (Ord n) (kas_sort n):=by
 refine(mP_ hn (show Ord n (List.range n).toArray from Array.Perm.refl _) n).bind fun r hr=> ?_;by_cases h:r.1<n
 .rw [AA h];exact nF_ hn _ _ _ hr
 .rw [A9 h];exact hr
end
section
variable {prog:Program}{w:World}{A:Around}{E:Value->Shared->Prop}{s:Shared}
abbrev aI_ (h:Heap) (a:Addr) (vs:List Value):Heap:=((h.update a (Obj.mapSeq fun _=>(#[]:Array Value))).push (seqObj "tuple" vs.toArray 0)).push (seqObj "list" #[] 0)
theorem mm_ {kd:SortKind}{a:Addr}{vs:List Value}{n:Nat}{P:PySem.Fin->Shared->Prop} (ho:s.heap.get? a=some (seqObj "list" vs.toArray n)) (h2:2<=vs.length) (h64:vs.length<64)
  (hkd:∀(R:SortKind->Shared->Prop),R kd {s with heap:=aI_ s.heap a vs}->wpAny (model prog w) A (keyKind' vs.toArray) R E {s with heap:=aI_ s.heap a vs})
  (hc:∀i j,i<vs.length->j<vs.length->∃b,∀C:Bool->Shared->Prop,C b {s with heap:=aI_ s.heap a vs}->wpAny (model prog w) A (keyLt' kd (vs.getD i .none) (vs.getD j .none)) C (fun _ _=>False) {s with heap:=aI_ s.heap a vs})
  (h:∀p,Ord vs.length p->P (.done (.ret .none)) {s with heap:=sortedHeap s.heap a vs (p.map fun i=>vs.getD i .none)}):wpAny (model prog w) A (Builtin.«list.sort» ⟨[.ref a],[]⟩) P E s:=by
 rw [list_sort_plain];have ha:a<s.heap.objs.size:=AG ho;refine A0 (listItems_at ho rfl ?_);refine A0 (CU ho rfl ?_ (by rw [AC,As];lia) (AK _));obtain⟨e1,ho1⟩:∃e1,(s.heap.update a (Obj.mapSeq fun _=>(#[]:Array Value))).get? a=some (seqObj "list" #[] e1):=⟨_,CS ho (fun _=> #[])⟩;refine A0 (seqEpoch_at ho1 rfl ?_);refine A0 (wpAny_newTuple ?_ (by show vs.length<=_;rw [As];lia));refine A0 (D7 ?_ (AK _));refine An ?_;have ho6:(aI_ s.heap a vs).get? a=some (seqObj "list" #[] e1):=by
  rw [Ay _ _ _ (by rw [Bn,Ax];exact AJ (AV ha)),Ay _ _ _ (by rw [Ax];exact AJ ha)];exact ho1
 show wpAny (model prog w) A _ P E {s with heap:=aI_ s.heap a vs};dsimp only;have hn2:¬vs.toArray.size<2:=by rw [AC];lia
 rw [A9 hn2,A9 hn2];refine A0 (hkd _ ?_);have est:kas_st kd (pairsOf vs) (List.toArray (List.range vs.length))=SortSt.mk' kd (vs.toArray.zip vs.toArray) #[] 7 none:=by
  have e:=kas_range (pairsOf vs);rw [pairsOf_size] at e;show SortSt.mk' kd ((List.toArray (List.range vs.length)).map (kas_item (pairsOf vs))) #[] 7 none=SortSt.mk' kd (pairsOf vs) #[] 7 none;rw [e]
 have ask:(kas_sort vs.length).kasWp (kas_cmp prog w A kd (pairsOf vs)) (fun p s'=>s'={s with heap:=aI_ s.heap a vs}/\Ord vs.length p) {s with heap:=aI_ s.heap a vs}:=by
  refine aY_.wp (fun i j hi hj=> ?_) (fun p hp=>⟨rfl,hp⟩) (k9_ (by lia));obtain⟨b,hb⟩:=hc i j hi hj;refine⟨b,fun C hC=> ?_⟩;rw [<-kas_ask_eq];exact hb C hC
 have run:=kas_runs (E:=E) (Q:=fun _ st' s'=>∃p,s'={s with heap:=aI_ s.heap a vs}/\Ord vs.length p/\arrOf st'=p.map (kas_item (pairsOf vs))/\failedOf st'=none) h2 h64 (fun p' st' s' _ a2 a3 a4=>⟨p',a4.1,a4.2,a2,a3⟩) ask;rw [est] at run;refine A0 (BG run ?_ fun _ _ e=>e);rintro⟨⟨⟩,st'⟩ s' ⟨p,rfl,hp,har,hf⟩;dsimp only at har hf⊢;have eo:(arrOf st').map (·.2)=p.map fun i=>vs.getD i .none:=by
  rw [har,Array.map_map];refine Array.map_congr_left fun i _=> ?_;show(kas_item (pairsOf vs) i).2=_;rw [kas_item_eq]
 rw [eo];refine A0 (seqEpoch_at ho6 rfl ?_);refine A0 (CU ho6 rfl ?_ (AK _) (by rw [Array.size_map,As,hp.size];lia));rw [hf];simp only [Cd,AF,Ah];exact A2 (h p hp)
abbrev cI_ (h:Heap) (vs:List Value):Heap:=aI_ (((h.push (seqObj "list" #[] 0)).update h.objs.size (Obj.mapSeq (· ++vs.toArray))).push (seqObj "list" vs.toArray 0)) (h.objs.size+1) vs
theorem gB_ {h:Heap}{vs:List Value}{b:Addr}{o:Obj} (hb:h.get? b=some o):(cI_ h vs).get? b=some o:=by
 have hlt:b<h.objs.size:=AG hb;have sz:(((h.push (seqObj "list" #[] 0)).update h.objs.size (Obj.mapSeq (· ++vs.toArray))).push (seqObj "list" vs.toArray 0)).objs.size=h.objs.size+2:=by rw [Bn,Ax,Bn]
 have n0:b≠h.objs.size:=AJ hlt;have n1:b≠h.objs.size+1:=AJ (AV hlt);have n2:b≠h.objs.size+2:=AJ (AV (AV hlt));have n3:b≠h.objs.size+2+1:=AJ (AV (AV (AV hlt)));rw [Ay _ _ _ (by rw [Bn,Ax,sz];exact n3),Ay _ _ _ (by rw [Ax,sz];exact n2),DE _ _ _ _ n1,
  Ay _ _ _ (by rw [Ax,Bn];exact n1),DE _ _ _ _ n0,Ay _ _ _ n0]
 exact hb
theorem jy_ {kd:SortKind}{l:Addr}{vs:List Value}{Q:Value->Shared->Prop} (hl:s.heap.IsList l vs.toArray) (h2:2<=vs.length) (h64:vs.length<64)
  (hkd:∀(R:SortKind->Shared->Prop) (E:Value->Shared->Prop),R kd {s with heap:=cI_ s.heap vs}->wpAny (model prog w) A.in1.in1 (keyKind' vs.toArray) R E {s with heap:=cI_ s.heap vs})
  (hc:∀i j,i<vs.length->j<vs.length->∃b,∀C:Bool->Shared->Prop,C b {s with heap:=cI_ s.heap vs}->wpAny (model prog w) A.in1.in1 (keyLt' kd (vs.getD i .none) (vs.getD j .none)) C (fun _ _=>False) {s with heap:=cI_ s.heap vs})
  (h:∀p,Ord vs.length p->Q (.ref (s.heap.objs.size+1)) {s with heap:=sortedAll s.heap vs (p.map fun i=>vs.getD i .none)}):wpAny (model prog w) A (call (.builtin "sorted") [.ref l]) Q E s:=by
 refine Calls.call_function_entry kind_sorted plain_sorted entry_sorted (args_sorted1 _) ?_;unfold Builtin.«sorted»;refine A0 (m:=checkCount "sorted" 1 1 _) (A2 ?_);refine A0 (collect_list hl ?_ (by rw [As];lia));refine A0 (D7 ?_ (by rw [As];lia));have hsz:((s.heap.push (seqObj "list" #[] 0)).update s.heap.objs.size (Obj.mapSeq (· ++vs.toArray))).objs.size=s.heap.objs.size+1:=by
  rw [Ax,Bn]
 have hoL:(((s.heap.push (seqObj "list" #[] 0)).update s.heap.objs.size (Obj.mapSeq (· ++vs.toArray))).push (seqObj "list" vs.toArray 0)).get? (s.heap.objs.size+1)=some (seqObj "list" vs.toArray 0):=by
  rw [<-hsz];exact AE _ rfl
 show wpAny _ _ _ _ _ {s with heap:=((s.heap.push (seqObj "list" #[] 0)).update s.heap.objs.size (Obj.mapSeq (· ++vs.toArray))).push (seqObj "list" vs.toArray 0)};rw [hsz];refine A0 (An (AY slot_list_sort ⟨_,hoL,rfl⟩ entry_list_sort (mm_ (s:={s with heap:=((s.heap.push (seqObj "list" #[] 0)).update s.heap.objs.size (Obj.mapSeq (· ++vs.toArray))).push (seqObj "list" vs.toArray 0)}) hoL h2 h64 (fun R=>hkd R _) hc fun p hp=>⟨_,rfl, ?_⟩) (args_list_sort _)));exact A2 ⟨_,rfl,h p hp⟩
end
section
variable {prog:Program}{w:World}{A:Around}{E:Value->Shared->Prop}{s:Shared}
theorem iA_ {a:Addr}{vs:List Value}{n:Nat}{P:PySem.Fin->Shared->Prop} (ho:s.heap.get? a=some (seqObj "list" vs.toArray n)) (h2:vs.length<2)
  (h:P (.done (.ret .none)) {s with heap:=sortedHeap s.heap a vs vs.toArray}):wpAny (model prog w) A (Builtin.«list.sort» ⟨[.ref a],[]⟩) P E s:=by
 rw [list_sort_plain];have ha:a<s.heap.objs.size:=AG ho;refine A0 (listItems_at ho rfl ?_);refine A0 (CU ho rfl ?_ (by rw [AC,As];lia) (AK _));obtain⟨e1,ho1⟩:∃e1,(s.heap.update a (Obj.mapSeq fun _=>(#[]:Array Value))).get? a=some (seqObj "list" #[] e1):=⟨_,CS ho (fun _=> #[])⟩;refine A0 (seqEpoch_at ho1 rfl ?_);refine A0 (wpAny_newTuple ?_ (by show vs.length<=_;rw [As];lia));refine A0 (D7 ?_ (AK _));refine An ?_;have ho6:(aI_ s.heap a vs).get? a=some (seqObj "list" #[] e1):=by
  rw [Ay _ _ _ (by rw [Bn,Ax];exact AJ (AV ha)),Ay _ _ _ (by rw [Ax];exact AJ ha)];exact ho1
 show wpAny (model prog w) A _ P E {s with heap:=aI_ s.heap a vs};dsimp only;have hn2:vs.toArray.size<2:=by rw [AC];lia
 rw [AA hn2,AA hn2];refine A0 (A2 ?_);rw [StateT.run_pure];refine A0 (A2 ?_);dsimp only;have eo:(vs.toArray.zip vs.toArray).map (·.2)=vs.toArray:=by
  refine Array.ext (by simp) fun i h1 h2=> ?_;simp
 refine A0 (seqEpoch_at ho6 rfl ?_);rw [eo];refine A0 (CU ho6 rfl ?_ (AK _) (by rw [AC,As];lia));simp only [Cd,AF,Ah];exact A2 h
theorem jz_ {l:Addr}{vs:List Value}{Q:Value->Shared->Prop} (hl:s.heap.IsList l vs.toArray) (h2:vs.length<2)
  (h:Q (.ref (s.heap.objs.size+1)) {s with heap:=sortedAll s.heap vs vs.toArray}):wpAny (model prog w) A (call (.builtin "sorted") [.ref l]) Q E s:=by
 refine Calls.call_function_entry kind_sorted plain_sorted entry_sorted (args_sorted1 _) ?_;unfold Builtin.«sorted»;refine A0 (m:=checkCount "sorted" 1 1 _) (A2 ?_);refine A0 (collect_list hl ?_ (by rw [As];lia));refine A0 (D7 ?_ (by rw [As];lia));have hsz:((s.heap.push (seqObj "list" #[] 0)).update s.heap.objs.size (Obj.mapSeq (· ++vs.toArray))).objs.size=s.heap.objs.size+1:=by
  rw [Ax,Bn]
 have hoL:(((s.heap.push (seqObj "list" #[] 0)).update s.heap.objs.size (Obj.mapSeq (· ++vs.toArray))).push (seqObj "list" vs.toArray 0)).get? (s.heap.objs.size+1)=some (seqObj "list" vs.toArray 0):=by
  rw [<-hsz];exact AE _ rfl
 show wpAny _ _ _ _ _ {s with heap:=((s.heap.push (seqObj "list" #[] 0)).update s.heap.objs.size (Obj.mapSeq (· ++vs.toArray))).push (seqObj "list" vs.toArray 0)};rw [hsz];refine A0 (An (AY slot_list_sort ⟨_,hoL,rfl⟩ entry_list_sort (iA_ (s:={s with heap:=((s.heap.push (seqObj "list" #[] 0)).update s.heap.objs.size (Obj.mapSeq (· ++vs.toArray))).push (seqObj "list" vs.toArray 0)}) hoL h2 ⟨_,rfl, ?_⟩) (args_list_sort _)));exact A2 ⟨_,rfl,h⟩
end
section
variable {X:Cx}
theorem ek_ {rs:List V}{its:List Value} (r:aP_ rs its):∀(l:List Nat),(∀i∈l,i<rs.length)->aP_ (l.map fun i=>rs.getD i .non) (l.map fun i=>its.getD i .none)
 |[],_=> .nil
 |i::l,h=>by
  have hi:i<rs.length:=h i (by simp);have e:rs[i]? =some rs[i]:=A3 hi;obtain⟨u,hu,ru⟩:=r.get e;rw [AO,AO];refine .cons ?_ (ek_ r l fun j hj=>h j (by simp [hj]));rw [List.getD,List.getD,e,hu];exact ru
end
def jO_ (fin:Bool):List Int->List Int->Bool
 |x::xs,y::ys=>if x=y then jO_ fin xs ys else decide (x<y)
 |_,_=>fin
def ltI (xs ys:List Int):Bool:=jO_ (decide (xs.length<ys.length)) xs ys
section
variable {prog:Program}{w:World}{A:Around}{E:Value->Shared->Prop}{s:Shared}
theorem iS_ {fin:Bool}{Q:Bool->Shared->Prop}:∀{xs ys:List Int}{is js:List Value} (i:Nat),aP_ (xs.map V.int) is->aP_ (ys.map V.int) js->Q (jO_ fin xs ys) s->KatLex prog w A true fin Q (is.zip js) i s
 |[],ys,is,js,i,h1,h2,q=>by
  cases h1;rw [List.zip_nil_left];exact kat_nil (by cases ys<;>exact q)
 |x::xs,[],is,js,i,h1,h2,q=>by
  cases h2;rw [List.zip_nil_right];exact kat_nil q
 |x::xs,y::ys,is,js,i,h1,h2,q=>by
  cases h1 with
  |cons r1 h1=>
  cases h2 with
  |cons r2 h2=>
  obtain⟨t,rfl⟩:=r1;obtain⟨t',rfl⟩:=r2;rw [List.zip_cons_cons];refine kat_cons ?_;refine wpAny_eqBool_int ?_;unfold jO_ at q;by_cases e:x=y
  .rw [AA e] at q;rw [show(x==y)=true by simp [e]];exact kat_yes (iS_ (i+1) h1 h2 q)
  .rw [A9 e] at q;rw [show(x==y)=false by simp [e]];refine kat_no ?_;cases hb:(true&&i==0) with
   |true=>exact oneLt_int q
   |false=>exact kat_one _ _ (SeqAt.LtAt.int_int x t y t' prog w _ _ q)
end
theorem mN_ (xss:List (List Int)):(List.range xss.length).map (fun i=>xss.getD i [])=xss:=by
 refine List.ext_getElem (by simp) fun i h1 h2=> ?_;simp [List.getD,h2]
theorem i4_ {H:Hp}{xss:List (List Int)}{rs:List V} (h:Iss H (xss.map tI) rs):∀(l:List Nat),(∀i∈l,i<xss.length)->Iss H ((l.map fun i=>xss.getD i []).map tI) (l.map fun i=>rs.getD i .non)
 |[],_=>rfl
 |i::l,hl=>by
  have hi:i<xss.length:=hl i (by simp);have hr:i<rs.length:=by rw [h.length,A1];exact hi
  refine⟨_,_,rfl, ?_,i4_ h l fun j hj=>hl j (by simp [hj])⟩;obtain⟨d,hd,h1⟩:=h.of_get (A3 hr);rw [A6,A3 hi] at hd;cases hd;show Is H (tI (xss.getD i [])) (rs.getD i .non);rw [A5,A5,A3 hi,A3 hr];exact h1
section
variable {X:Cx}{pins:List (Addr×Obj)}{σ:St}{H:Hp}{s:Shared}
theorem i0_ (I:Inv X pins σ H s):∀{xss:List (List Int)}{rs:List V}{its:List Value},Iss H (xss.map tI) rs->aP_ rs its->(∀xs∈xss,xs≠[])->∃fs:List Value,KatTups s.heap its fs/\fs.length=its.length/\∀f∈fs,∃z t,f=Value.int z t
 |[],rs,its,h,r,_=>by
  obtain rfl:rs=[]:=h;cases r;exact⟨[],KatTups.nil,rfl,fun _ h=>nomatch h⟩
 |xs::xss,rs,its,h,r,hne=>by
  obtain⟨u,us,rfl,h1,h2⟩:=h;cases r with
  |cons r1 r2=>
  rename_i v its;obtain⟨fs,k1,k2,k3⟩:=i0_ I h2 r2 fun ys hy=>hne ys (by simp [hy]);obtain⟨a,rfl,ha⟩:=cg_ h1;obtain rfl:v=Value.ref a:=r1;obtain⟨is,q1,q2,q3⟩:=I.tuple (SqT.of (K:=X.K) ha);obtain⟨o,ho,hc,n,hd⟩:=(show s.heap.IsTuple a is.toArray from q2)
  match xs,hne xs (by simp) with
  |x::xs',_=>
  cases q1 with
  |cons q0 q1=>
  obtain⟨t,rfl⟩:=q0;refine⟨.int x t::fs,KatTups.cons ho hc hd (by simp) k1,by simp [k2],fun f hf=> ?_⟩;rcases AI.mp hf with rfl|hf
  .exact⟨_,_,rfl⟩
  .exact k3 f hf
theorem mS_ (I:Inv X pins σ H s) {a b:Addr}{xs ys:List Int} (h1:SqT X.K H a (xs.map V.int)) (h2:SqT X.K H b (ys.map V.int)) {A:Around}{prog:Program}{w:World}{E:Value->Shared->Prop}{Q:Bool->Shared->Prop} (q:Q (ltI xs ys) s):
  wpAny (model prog w) A (keyLt' (tuples' true) (.ref a) (.ref b)) Q E s:=by
 obtain⟨is,r1,p1,z1⟩:=I.tuple h1;obtain⟨js,r2,p2,z2⟩:=I.tuple h2;obtain⟨o1,ho1,hc1,n1,hd1⟩:=(show s.heap.IsTuple a is.toArray from p1);obtain⟨o2,ho2,hc2,n2,hd2⟩:=(show s.heap.IsTuple b js.toArray from p2);refine kat_lt ho1 hd1 ho2 hd2 ?_;have l1:is.toArray.size=xs.length:=by have:=r1.length;simp at this⊢;lia
 have l2:js.toArray.size=ys.length:=by have:=r2.length;simp at this⊢;lia
 rw [l1,l2];exact iS_ 0 r1 r2 q
end
end L2
namespace L2
open PySem PySem.Spec PyProof.Rows
def mW_ (v:Value) (k:Int):Bool:=match v with
 | .int i _=>decide (i=k)
 |_=>false
def gn_:List DictEntry->List (Int×Int)->Bool
 |[],[]=>true
 |e::es,p::kvs=>mW_ e.key p.1&&decide (e.hash=hashInt p.1)&&mW_ e.val p.2&&gn_ es kvs
 |_,_=>false
def qh_ (o:Obj) (kvs:List (Int×Int)):Bool:=match o.cls,o.dict,o.data with
 | .type c,none, .dict es _=>c=="dict"&&o.slots.isEmpty&&gn_ es.toList kvs
 |_,_,_=>false
def jh_ (K:W.Frag) (a:Addr) (kvs:List (Int×Int)):Bool:=match K.lookup a with
 |some o=>qh_ o kvs
 |none=>false
theorem i7_ {v:Value}{k:Int} (h:mW_ v k=true):∃t,v= .int k t:=by
 unfold mW_ at h;split at h
 .rename_i i t;exact⟨t,by rw [At h]⟩
 .cases h
theorem fA_ {e:DictEntry}{es:List DictEntry}{p:Int×Int}{kvs:List (Int×Int)} (h:gn_ (e::es) (p::kvs)=true):(∃t,e.key= .int p.1 t)/\e.hash=hashInt p.1/\(∃t,e.val= .int p.2 t)/\gn_ es kvs=true:=by
 unfold gn_ at h;rw [AN,AN,AN] at h;exact⟨i7_ h.1.1.1,At h.1.1.2,i7_ h.1.2,h.2⟩
theorem fy_:∀{es:List DictEntry}{kvs:List (Int×Int)},gn_ es kvs=true->∀e∈es,∃k,Value.isInt k e.key=true/\e.hash=hashInt k
 |[],_,_,e,he=>nomatch he
 |e::es,[],h,_,_=>by unfold gn_ at h;cases h
 |e::es,p::kvs,h,e',he=>by
  obtain⟨⟨t,h1⟩,h2,_,h4⟩:=fA_ h;rcases AI.mp he with rfl|he
  .exact⟨p.1,by rw [h1];simp [Value.isInt],h2⟩
  .exact fy_ h4 e' he
theorem fz_ {k v:Int}:∀{es:List DictEntry}{kvs:List (Int×Int)},gn_ es kvs=true->kvs.lookup k=some v->∃t,(es.find? fun e=>Value.isInt k e.key).map (·.val)=some (.int v t)
 |_,[],_,hv=>nomatch hv
 |[],p::kvs,h,_=>by unfold gn_ at h;cases h
 |e::es,p::kvs,h,hv=>by
  obtain⟨⟨t,h1⟩,h2,⟨u,h3⟩,h4⟩:=fA_ h;rw [C7] at hv;rw [BS];by_cases q:k=p.1
  .have b:(k==p.1)=true:=by simp [q]
   rw [b] at hv;have hv':p.2=v:=Ac hv;have i:Value.isInt k e.key=true:=by rw [h1,q];simp [Value.isInt]
   rw [i];exact⟨u,by rw [<-hv',<-h3];rfl⟩
  .have b:(k==p.1)=false:=by simp [q]
   rw [b] at hv;have i:Value.isInt k e.key=false:=by rw [h1];simp [Value.isInt];exact fun z=>q z.symm
   rw [i];exact fz_ h4 hv
def pH_ (K:W.Frag) (td ty:TE):TE:=fun σ H Q=>td σ H fun x H1=>ty σ H1 fun y H2=>∃a kvs k v,x= .ref a/\jh_ K a kvs=true/\y= .int k/\kvs.lookup k=some v/\Q (.int v) H2
theorem mC_ {X:Cx}{o i:Expr}{pos:Pos}{td ty:TE} (ho:PE X o td) (hi:PE X i ty) (hs:rb_ i):PE X (.Subscript o i pos) (pH_ X.K td ty):=by
 intro pins s σ H Q I h;refine hJ_ PySem.F.slot_dict_getitem.lookup hs (thn (ho pins s σ H _ I h) fun u s1 ⟨x,H1,I1,rx,q1⟩=>thn (hi pins s1 σ H1 _ I1 q1) fun iv s2 ⟨y,H2,I2,ry,a,kvs,k,v,ex,hd,ey,hv,q2⟩=> ?_);subst ex ey;obtain rfl:u=Value.ref a:=rx;obtain⟨t,rfl⟩:=ry;unfold jh_ at hd;split at hd
 .rename_i ob hob;have hg:=I2.kIn a ob hob;unfold qh_ at hd;split at hd
  .rename_i c es ep hc hdi hda;rw [AN,AN] at hd;obtain⟨⟨d1,d2⟩,d3⟩:=hd;have hc':ob.cls= .type "dict":=by rw [hc,eq_of_beq d1]
   obtain⟨t',ht⟩:=fz_ d3 hv;have mp:s2.heap.MapOf (intKind X.prog X.w) a (findBy Value.isInt es):=⟨ob,es,ep,hg,⟨hc',hdi,Array.isEmpty_iff.mp d2⟩,hda,fun e he=>fy_ d3 e (by simpa using he),fun _=>rfl⟩;refine⟨⟨ob,hg,hc'⟩,wpAny_getItem_of (knd:=intKind X.prog X.w) (k:=k) (by simp [intKind,Value.isInt]) mp (v:= .int v t') ?_ ⟨.int v,H2,I2.tok _,⟨_,rfl⟩,q2⟩⟩;show findBy Value.isInt es k=_;unfold findBy;obtain⟨l⟩:=es;simpa using ht
  .cases hd
 .cases hd
end L2
namespace L2
open PySem PySem.Spec PyProof.Rows
def sg_ (K:W.Frag) (H:Hp) (n:Nat) (xs:List V) (x:V) (es:Nat->Bool):Prop:=n<=8/\(∀(j:Nat) z,xs[j]? =some z->(∃a,z= .ref a)/\EqR K H n z x (es j))/\∀(i j:Nat) z,xs[i]? =some z->xs[j]? =some z->es i=es j
section
variable {X:Cx}{pins:List (Addr×Obj)}{σ:St}{H:Hp}{s:Shared}
open Classical in
noncomputable def he_ (its:List Value) (es:Nat->Bool) (u:Value):Bool:=decide (∃j:Nat,its[j]? =some u/\es j=true)
end
section
variable {X:Cx}
end
end L2
namespace L2
open PySem PySem.Spec PyProof.Rows
structure FnOkS (P:Program) (w:World) (K:W.Frag) (mg:Str->Option Value) (base:Heap) (k:Nat) (f:Addr) (fd:FuncData) (ps:List Str) (sp:Sp):Prop where
 len:∀vs H Q E,sp vs H Q E->vs.length=ps.length
 run:∀(A:Around) (e:Addr) (outer:List Env) (s:Shared) (H:Hp) (args:Args) (us:List Value) (vs:List V) (Q:VK) (E:XK),Room k A->Env0 P w K mg base (A.mark (some (.ref e))) outer s H->BindsTo s fd args (ps.zip us)->aP_ vs us->sp vs H Q E->
  codeAny (model P w) (A.mark (some (.ref e))) (.call (.ref f) args) (CR CX0 outer P w H s Q E) s
theorem Fun.okS {P:Program}{w:World}{K:W.Frag}{mg:Str->Option Value}{base:Heap}{x qual:Str}{st:Stmt}{f:Addr}{fd:FuncData}{N ps:List Str}{k:Nat}{sp:Sp} (F:Fun K x qual st f fd) (S:FnScope N ps (ag_ st)) (len:∀vs H Q E,sp vs H Q E->vs.length=ps.length)
  (hbody:∀(cdv:Value) (A:Around) (outer:List Env) (s:Shared) (H:Hp) (vs:List V) (Q:VK) (E:XK) (e:Addr),Room k (A.deeper (envOfC qual (ag_ st) s.heap.objs.size f cdv))->sp vs H Q E->
   ∃t,PSs ((ih_ CX0 P w K mg base N qual (ag_ st) f cdv A outer s H E).inSuite e) (bd_ st) t/\t {nx:=fun _ H'=>Q .non H',rt:=Q} (start N vs) H):FnOkS P w K mg base (k+1) f fd ps sp:=by
 obtain⟨oc,od,kV,doc,pm,an,cdv,ct,osl,rfl,lk,hcd⟩:=F.ex;refine⟨len,fun A e outer s H args us vs Q E hr e0 hb r hsp=> ?_⟩;have hl:=len _ _ _ _ hsp;have KX:K.In s.heap:=e0.mod.kin.keeps fun b o q=>(e0.bs b o q).1;have lim:s.heap.NoLimit:=e0.mod.nolimit.keeps fun b o q=>(e0.bs b o q).1;have hkind:∀y∈ps.zip us,(ag_ st).names.lookup y.1=some .local\/((ag_ st).names.lookup y.1=some .cell/\((cellsFrom (s.heap.objs.size+1) (ag_ st).names []).lookup y.1).isSome=true):=fun⟨n,v⟩ hy=>by
  rcases S.par n (List.of_mem_zip hy).1 with q|q
  .exact .inl q
  .exact .inr ⟨q,W.cellsFrom_some _ _ _ (.inl q)⟩
 have e0':Env0 P w K mg base A outer s H:=⟨e0.frames,e0.mod,e0.bs,e0.bsz,e0.funs,e0.frf,e0.hok,e0.bare⟩;refine codeAny_call_function (A:=A.mark (some (.ref e))) hr.depth (KX _ _ lk) rfl S.co S.gen rfl (W.codeRec_of KX hcd) (hb _ _ _ _ ?_);refine wpAny_newFunctionEnv_cells S.kind hkind fun env he s1 x=> ?_;subst he;refine⟨lim.keeps x.toInCall.keep,codeAny_func ?_⟩;obtain⟨t,ht,hq⟩:=hbody cdv A outer s H vs Q E e (hr.deeper _) hsp;have I:Inv ((ih_ CX0 P w K mg base N qual (ag_ st) f cdv A outer s H E).inSuite e) [] (start N vs) H s1:=(g8_ S hr.hd e0' hl r x).toSuite;refine BG (ht [] s1 (start N vs) H _ I hq) (fun fl s' hs=> ?_) fun e s' hs=>hs.elim;have fin:∀{σ':St}{H':Hp}{v:V}{u:Value},Inv ((ih_ CX0 P w K mg base N qual (ag_ st) f cdv A outer s H E).inSuite e) [] σ' H' s'->aV_ v u->Q v H'->CE outer P w H s Q u s':=
  fun{σ' H' v u} J rv q=>⟨v,H',J.os,J.bare,J.base,J.hok,rv,q⟩
 cases fl with
 |ret u=>
  obtain⟨v,σ',H',J,rv,q⟩:=hs;exact fin J rv q
 |next=>
  obtain⟨σ',H',J,q⟩:=hs;exact fin (v:=V.non) (u:=Value.none) J rfl q
 |brk=>
  obtain⟨_,_,_,q⟩:=hs;exact False.elim q
 |cont=>
  obtain⟨_,_,_,q⟩:=hs;exact False.elim q
section
variable {X:Cx}{k:Nat}{f ea:Addr}{fd:FuncData}{ps:List Str}{sp:Sp}{x:Str}{p pos:Pos}{e:Expr}{es:List Expr}{t:TA}
theorem mF_ (F:FnOkS X.prog X.w X.K X.mg X.base k f fd ps sp) (hr:Room k X.A) (hg:Gl (X.inSuite ea) x) (hm:X.mg x=some (.ref f)) (hk:W.keepIn X.K (.ref f)=true) (hb:hx_ X.K fd ps [])
  (ha:PA (X.inSuite ea) (e::es) t) (hdb:(x==("__debug__":Str))=false:=by decide) (he:starEach (e::es) X.env=(false,eval e X.env)::starEach es X.env:=by rfl) (hpl:(backTo pos (starEach es X.env)).any (·.1)=false:=by rfl):
  PE (X.inSuite ea) (.Call (.Name x p) (e::es) [] pos) (pK_ sp [] E0 t):=by
 intro pins s σ H Q I h;refine B4 (eO_ I hg hm ?_ hdb);refine D' (h₀:=X.base) I.ok.mod.kin hk (thn (ha pos pins s σ H _ I h) fun us s1 ⟨vs,H1,I1,r,q⟩=>⟨I1.kIn, ?_⟩) he hpl;have q:sp (vs++[]) H1 Q E0:=q;rw [Ag] at q;have hl:us.length=ps.length:=by rw [<-r.length];exact F.len _ _ _ _ q
 have hb':=hb s1 us I1.kIn (by rw [Ag];exact hl);rw [Ag] at hb';refine wpAny_call (CV (F.run X.A ea X.stack s1 H1 ⟨us,[]⟩ us vs Q E0 hr I1.env0 hb' r q) fun r s' hq=> ?_);cases r with
 |error e=>exact hq.elim
 |ok fl=>
  cases fl with
  |ret u=>exact I1.after hq
  |next=>exact False.elim hq
  |brk=>exact False.elim hq
  |cont=>exact False.elim hq
end
end L2
namespace L2
open PySem PySem.Spec PyProof.Rows PySem.W
def Ask (K:W.Frag) (H:Hp) (x y:V) (b:Bool):Prop:=∃(a1 a2:Addr) (xs ys:List V) (d:Nat) (es fs:Nat->Bool),x= .ref a1/\y= .ref a2/\SqL K H a1 xs/\SqL K H a2 ys/\d<=4/\
 (∀(j:Nat) x y,xs[j]? =some x->ys[j]? =some y->EqR K H d x y (es j))/\(∀(j:Nat) x y,xs[j]? =some x->ys[j]? =some y->es j=false->LtR K H d x y (fs j))/\b=SeqAt.lex es fs xs.length ys.length (min xs.length ys.length) 0
def mw_ (K:W.Frag):List V->Hp->VK->Prop:=fun vs H Q=>∃(l:Addr) (rs:List V),vs=[.ref l]/\SqL K H l rs/\rs.length<64/\(∀r∈rs,∃a ys,r= .ref a/\SqL K H a ys)/\
 (∀x∈rs,∀y∈rs,∃b,Ask K H x y b)/\∀(p:List Nat) q,p.Perm (List.range rs.length)->H q=none->Q (.ref q) (upd H q (.lst (p.map fun i=>rs.getD i .non)))
section
variable {X:Cx}
theorem hl_ {k:Nat} (hr:Room k X.A):b8_ X (.builtin "sorted") (mw_ X.K):=by
 intro pins s σ H xs us Q I r h;obtain⟨l,rs,rfl,hq,h64,hty,hask,q⟩:=h;obtain⟨u,rfl,rx⟩:=fD_ r;cases rx;obtain⟨its,r',pl,hz⟩:=I.list hq;have ln:=r'.length;have hu:=hr.un;by_cases h2:rs.length<2
 .refine jz_ (vs:=its) pl.isList (by lia) ?_;obtain⟨e,he⟩:=sortedAll_at s.heap its its.toArray;have fr:=I.hok.fresh (a:=s.heap.objs.size+1) (Cs _);have er:(List.range rs.length).map (fun i=>rs.getD i .non)=rs:=by
   refine List.ext_getElem (by simp) fun i h1 h2=> ?_;simp [List.getD,h2]
  have:=q (List.range rs.length) (s.heap.objs.size+1) (List.Perm.refl _) fr;rw [er] at this;exact⟨.ref (s.heap.objs.size+1),_,I.laid (t':=s.toks) (fun _ _=>sortedAll_old) (Cs _) (show aH_ X.prog X.w _ _ _ (.lst rs) from⟨hz,its,e,r',he⟩),rfl,this⟩
 .have I2:Inv X pins σ H {s with heap:=cI_ s.heap its}:=I.kept (t':=s.toks) fun b o e=>gB_ e;have g:∀i,i<its.length->∃x∈rs,aV_ x (its.getD i .none):=fun i h=>by
   have hr:i<rs.length:=by lia
   obtain⟨u,hu1,ru⟩:=r'.get (A3 hr);exact⟨rs[i],List.getElem_mem hr,by rw [A5,hu1];exact ru⟩
  refine jy_ (kd:=oneType') (vs:=its) pl.isList (by lia) (by lia) (fun R E hR=>kas_kind (T:= .type "list") (by lia) (fun v hv=> ?_) rfl rfl hR) (fun i j hi' hj'=> ?_) fun p ho=> ?_
  .obtain⟨i,hi,rfl⟩:=BW.mp hv;have hi':i<rs.length:=by lia
   obtain⟨a,ys,e1,hy⟩:=hty rs[i] (List.getElem_mem hi');obtain⟨u,hu1,ru⟩:=r'.get (A3 hi');rw [A3 hi] at hu1;rw [e1] at ru;obtain rfl:u=Value.ref a:=ru;rw [Ac hu1];obtain⟨js,r2,p2,z2⟩:=I2.list hy;obtain⟨o,ho,hc,_⟩:=p2.isList;exact hc▸(Looks.ld ho).andThen .now
  .obtain⟨x,hx,rx⟩:=g i hi';obtain⟨y,hy,ry⟩:=g j hj';obtain⟨b,a1,a2,xs,ys,d,es,fs,rfl,rfl,h1,h2,hd,he,hf,eb⟩:=hask x hx y hy;refine⟨b,fun C hC=> ?_⟩;have e1:its.getD i .none=Value.ref a1:=rx;have e2:its.getD j .none=Value.ref a2:=ry;rw [e1,e2];rw [eb] at hC;exact LtR.key I2 h1 h2 he hf (by rw [aK_,aK_];lia) hC
  .have ho':Ord rs.length p:=by rw [ln];exact ho
   obtain⟨e,he⟩:=sortedAll_at s.heap its (p.map fun i=>its.getD i .none);have en:(p.map fun i=>its.getD i .none)=List.toArray (p.toList.map fun i=>its.getD i .none):=by
    apply Array.toList_inj.mp;simp
   rw [en] at he⊢;have fr:=I.hok.fresh (a:=s.heap.objs.size+1) (Cs _);have pp:p.toList.Perm (List.range rs.length):=CM.mp ho';refine⟨.ref (s.heap.objs.size+1),_,I.laid (t':=s.toks) (fun _ _=>sortedAll_old) (Cs _) (show aH_ X.prog X.w _ _ _ (.lst (p.toList.map fun i=>rs.getD i .non)) from⟨?_,_,e,ek_ r' p.toList (fun i hi=>ho'.lt hi),he⟩),rfl,q p.toList _ pp fr⟩;rw [A1,B1,As,ho'.size];lia
end
section
variable {K:W.Frag}{H:Hp}
end
end L2
namespace L2
open PySem PySem.Spec PyProof.Rows PyProof
section
variable {prog:Program}{w:World}{A:Around}{R:Result->Shared->Prop}{I:Addr}{fp wr:List Addr}{n:Nat}{P:Nat->Value->Prop}{St:Nat->Heap->Prop}{nm:Str}{dv:Value}
end
section
variable {prog:Program}{w:World}{A:Around}{E:Value->Shared->Prop}{s:Shared}
end
section
variable {X:Cx}{e e2:Expr}{p pos kpos:Pos}{ta tk:TA}
end
end L2
namespace L2
open PySem PySem.Spec PyProof.Rows PySem.W
def cn_ (c:Nat->Nat->Bool) {α:Type}:KasT α->α
 | .ret a=>a
 | .ask i j k=>cn_ c (k (c i j))
theorem b7_ {c:Nat->Nat->Bool}{α β:Type}{f:α->KasT β}:∀(t:KasT α),cn_ c (t.bind f)=cn_ c (f (cn_ c t))
 | .ret _=>rfl
 | .ask i j k=>b7_ (k (c i j))
structure Ordr (c:Nat->Nat->Bool):Prop where
 asym:∀a b,c a b=true->c b a=false
 tr:∀a b d,c b a=false->c d b=false->c d a=false
section
variable {c:Nat->Nat->Bool}
abbrev at0 (p:Array Nat) (i:Nat):Nat:=p.getD i 0
def Up (c:Nat->Nat->Bool) (p:Array Nat) (m:Nat):Prop:=∀i j,i<j->j<m->c (at0 p j) (at0 p i)=false
def Dn (c:Nat->Nat->Bool) (p:Array Nat) (m:Nat):Prop:=∀i j,i<j->j<m->c (at0 p i) (at0 p j)=false
theorem Up.more (O:Ordr c) {p:Array Nat}{m:Nat} (h:Up c p m) (hm:0<m) (e:c (at0 p m) (at0 p (m-1))=false):Up c p (m+1):=by
 intro i j hij hj;by_cases hjm:j<m
 .exact h i j hij hjm
 .obtain rfl:j=m:=by lia
  by_cases hi:i=j-1
  .subst hi;exact e
  .exact O.tr _ _ _ (h i (j-1) (by lia) (by lia)) e
theorem Dn.more (O:Ordr c) {p:Array Nat}{m:Nat} (h:Dn c p m) (hm:0<m) (e:c (at0 p (m-1)) (at0 p m)=false):Dn c p (m+1):=by
 intro i j hij hj;by_cases hjm:j<m
 .exact h i j hij hjm
 .obtain rfl:j=m:=by lia
  by_cases hi:i=j-1
  .subst hi;exact e
  .exact O.tr _ _ _ e (h i (j-1) (by lia) (by lia))
theorem ga_ (O:Ordr c) {p:Array Nat}:∀(f m:Nat),0<m->Up c p m->m<=cn_ c (kas_asc p f m)/\cn_ c (kas_asc p f m)<=m+f/\Up c p (cn_ c (kas_asc p f m))/\(cn_ c (kas_asc p f m)<m+f->c (at0 p (cn_ c (kas_asc p f m))) (at0 p (cn_ c (kas_asc p f m)-1))=true)
 |0,m,hm,h=>⟨A7 _,A7 _,h,fun z=>absurd z (Bo _)⟩
 |f+1,m,hm,h=>by
  unfold kas_asc cn_;cases e:c (p.getD m 0) (p.getD (m-1) 0) with
  |true=>
   dsimp only;rw [AA rfl];exact⟨A7 _,by show m<=_;lia,h,fun _=>e⟩
  |false=>
   dsimp only;rw [A9 (by decide)];obtain⟨h1,h2,h3,h4⟩:=ga_ O f (m+1) (by lia) (h.more O hm e);exact⟨by lia,by lia,h3,fun z=>h4 (by lia)⟩
theorem cP_ {p:Array Nat}{i j:Nat} (hj:j<=p.size) (k:Nat):at0 (kas_rev p i j) k=if i<=k/\k<j then at0 p (i+j-1-k) else at0 p k:=by
 have h:=getElem?_mirror_all (xs:=p) (i:=i) hj k;have e:∀q:Array Nat,∀k,at0 q k=(q[k]?).getD 0:=fun q k=>by simp [at0,Array.getD];split<;>simp [*]
 rw [e,e,e];unfold kas_rev;rw [h];split<;>rfl
theorem cd_ (p:Array Nat) (i j:Nat):(kas_rev p i j).size=p.size:=mirror_size _ _ _ _
theorem Dn.rev_all {p:Array Nat}{m:Nat} (h:Dn c p m) (hm:m<=p.size):Up c (kas_rev p 0 m) m:=by
 intro i j hij hj;rw [cP_ hm,cP_ hm,AA ⟨by lia,hj⟩,AA ⟨by lia,by lia⟩];exact h _ _ (by lia) (by lia)
theorem Up.rev_all {p:Array Nat}{m:Nat} (h:Up c p m) (hm:m<=p.size):Dn c (kas_rev p 0 m) m:=by
 intro i j hij hj;rw [cP_ hm,cP_ hm,AA ⟨by lia,by lia⟩,AA ⟨by lia,hj⟩];exact h _ _ (by lia) (by lia)
theorem Dn.rev_blk {p:Array Nat}{m q:Nat} (h:Dn c p m) (hm:m<=p.size) (hq:q+1<=m) (hb:∀i j,m-(q+1)<=i->i<m->m-(q+1)<=j->j<m->c (at0 p i) (at0 p j)=false):Dn c (kas_rev p (m-(q+1)) m) m:=by
 intro i j hij hj;rw [cP_ hm,cP_ hm];by_cases h1:m-(q+1)<=i
 .rw [AA ⟨h1,by lia⟩,AA ⟨by lia,hj⟩];exact hb _ _ (by lia) (by lia) (by lia) (by lia)
 .rw [A9 (by lia)];by_cases h2:m-(q+1)<=j
  .rw [AA ⟨h2,hj⟩];exact h _ _ (by lia) (by lia)
  .rw [A9 (by lia)];exact h _ _ hij hj
def Blk (c:Nat->Nat->Bool) (p:Array Nat) (m q:Nat):Prop:=q+1<=m/\∀i j,m-(q+1)<=i->i<m->m-(q+1)<=j->j<m->c (at0 p i) (at0 p j)=false
theorem ds_ (O:Ordr c):∀(f:Nat) (p:Array Nat) (m q:Nat),m+f<=p.size->0<m->Dn c p m->Blk c p m q->∀r,r=cn_ c (kas_desc f p m q)->r.1.size=p.size/\m<=r.2.1/\r.2.1<=m+f/\Dn c r.1 r.2.1/\Blk c r.1 r.2.1 r.2.2
 |0,p,m,q,_,_,hd,hb,r,e=>by
  subst e;exact⟨rfl,A7 _,A7 _,hd,hb⟩
 |f+1,p,m,q,hs,hm,hd,hb,r,e=>by
  unfold kas_desc cn_ at e;cases e1:c (p.getD m 0) (p.getD (m-1) 0) with
  |true=>
   rw [e1] at e;dsimp only at e;rw [AA rfl] at e;have e2:=O.asym _ _ e1;by_cases hq:q>0
   .rw [AA hq] at e;have hd2:=hd.rev_blk (by lia) hb.1 hb.2;have at_m:at0 (kas_rev p (m-(q+1)) m) m=at0 p m:=by rw [cP_ (by lia),A9 (by lia)]
    have at_m1:at0 (kas_rev p (m-(q+1)) m) (m-1)=at0 p (m-(q+1)+m-1-(m-1)):=by rw [cP_ (by lia),AA ⟨by have:=hb.1;lia,by lia⟩]
    have e3:c (at0 (kas_rev p (m-(q+1)) m) (m-1)) (at0 (kas_rev p (m-(q+1)) m) m)=false:=by
     rw [at_m,at_m1];have b1:=hb.1;exact O.tr _ _ _ e2 (hb.2 _ (m-1) (by lia) (by lia) (by lia) (by lia))
    have hd3:=hd2.more O hm e3;have hb3:Blk c (kas_rev p (m-(q+1)) m) (m+1) 0:=⟨by lia,fun i j h1 h2 h3 h4=>by
     obtain rfl:i=m:=by lia
     obtain rfl:j=i:=by lia
     cases h:c (at0 (kas_rev p (j-(q+1)) j) j) (at0 (kas_rev p (j-(q+1)) j) j) with
     |false=>rfl
     |true=>have:=O.asym _ _ h;rw [h] at this;cases this⟩
    obtain⟨r1,r2,r3,r4,r5⟩:=ds_ O f _ (m+1) 0 (by rw [cd_];lia) (by lia) hd3 hb3 r e;exact⟨by rw [r1,cd_],by lia,by lia,r4,r5⟩
   .rw [A9 hq] at e;have hd3:=hd.more O hm e2;have hb3:Blk c p (m+1) 0:=⟨by lia,fun i j h1 h2 h3 h4=>by
     obtain rfl:i=m:=by lia
     obtain rfl:j=i:=by lia
     cases h:c (at0 p j) (at0 p j) with
     |false=>rfl
     |true=>have:=O.asym _ _ h;rw [h] at this;cases this⟩
    obtain⟨r1,r2,r3,r4,r5⟩:=ds_ O f _ (m+1) 0 (by lia) (by lia) hd3 hb3 r e;exact⟨r1,by lia,by lia,r4,r5⟩
  |false=>
   rw [e1] at e;dsimp only at e;rw [A9 (by decide)] at e;unfold cn_ at e;cases e2:c (p.getD (m-1) 0) (p.getD m 0) with
   |true=>
    rw [e2] at e;dsimp only at e;rw [AA rfl] at e;subst e;exact⟨rfl,A7 _,by show m<=_;lia,hd,hb⟩
   |false=>
    rw [e2] at e;dsimp only at e;rw [A9 (by decide)] at e;have hd3:=hd.more O hm e2;have b1:=hb.1;have hb3:Blk c p (m+1) (q+1):=⟨by lia,fun i j h1 h2 h3 h4=>by
     by_cases hi:i=m
     .by_cases hj:j=m
      .subst hi;subst hj;cases h:c (at0 p j) (at0 p j) with
       |false=>rfl
       |true=>have:=O.asym _ _ h;rw [h] at this;cases this
      .subst hi;exact O.tr _ _ _ (hb.2 _ _ (by lia) (by lia) (by lia) (by lia)) e1
     .by_cases hj:j=m
      .subst hj;exact O.tr _ _ _ e2 (hb.2 _ _ (by lia) (by lia) (by lia) (by lia))
      .exact hb.2 _ _ (by lia) (by lia) (by lia) (by lia)⟩
    obtain⟨r1,r2,r3,r4,r5⟩:=ds_ O f _ (m+1) (q+1) (by lia) (by lia) hd3 hb3 r e;exact⟨r1,by lia,by lia,r4,r5⟩
theorem gZ_ (O:Ordr c) {p:Array Nat}{m n:Nat} (hn:n<=p.size) (hm:m<=n) (h0:0<m) (hd:Dn c p m):∀r,r=cn_ c (kas_tail3 m n p)->r.2.size=p.size/\0<r.1/\r.1<=n/\Up c r.2 r.1:=by
 intro r e;unfold kas_tail3 at e;rw [b7_] at e;subst e;obtain⟨h1,h2,h3,_⟩:=ga_ O (n-m) m h0 (hd.rev_all (by lia));exact⟨cd_ _ _ _,by show 0<cn_ c _;lia,by show cn_ c _<=n;lia,h3⟩
theorem g0_ (O:Ordr c) {p:Array Nat}{m n:Nat} (hn:n<=p.size) (hm:m<n) (h0:0<m) (hd:Dn c p m) (e:c (at0 p m) (at0 p (m-1))=true):∀r,r=cn_ c (kas_descPart m n p)->r.2.size=p.size/\0<r.1/\r.1<=n/\Up c r.2 r.1:=by
 intro r er;unfold kas_descPart at er;rw [b7_] at er;have hd1:=hd.more O h0 (O.asym _ _ e);have hb1:Blk c p (m+1) 0:=⟨by lia,fun i j h1 h2 h3 h4=>by
  obtain rfl:i=m:=by lia
  obtain rfl:j=i:=by lia
  cases h:c (at0 p j) (at0 p j) with
  |false=>rfl
  |true=>have:=O.asym _ _ h;rw [h] at this;cases this⟩
 obtain⟨r1,r2,r3,r4,r5⟩:=ds_ O (n-(m+1)) p (m+1) 0 (by lia) (by lia) hd1 hb1 _ rfl;generalize cn_ c (kas_desc (n-(m+1)) p (m+1) 0)=d at*
 split at er
 .obtain⟨t1,t2,t3,t4⟩:=gZ_ O (p:=kas_rev d.1 (d.2.1-(d.2.2+1)) d.2.1) (m:=d.2.1) (n:=n) (by rw [cd_];lia) (by lia) (by lia) (r4.rev_blk (by lia) r5.1 r5.2) r er;exact⟨by rw [t1,cd_,r1],t2,t3,t4⟩
 .obtain⟨t1,t2,t3,t4⟩:=gZ_ O (p:=d.1) (m:=d.2.1) (n:=n) (by lia) (by lia) (by lia) r4 r er;exact⟨by rw [t1,r1],t2,t3,t4⟩
theorem jP_ (O:Ordr c) {p:Array Nat}{n:Nat} (hn:n<=p.size) (h0:0<n):∀r,r=cn_ c (kas_count n p)->r.2.size=p.size/\0<r.1/\r.1<=n/\Up c r.2 r.1:=by
 intro r er;unfold kas_count at er;rw [b7_] at er;obtain⟨h1,h2,h3,h4⟩:=ga_ O (p:=p) (n-1) 1 (by decide) (fun i j a b=>absurd b (by lia));generalize cn_ c (kas_asc p (n-1) 1)=m at*
 by_cases hm:m=n
 .subst hm;rw [AA (by simp)] at er;subst er;exact⟨rfl,h0,A7 _,h3⟩
 .rw [A9 (by simp [hm])] at er;have st:=h4 (by lia);by_cases h5:m>1
  .rw [AA h5] at er;unfold cn_ at er;cases e1:c (p.getD 0 0) (p.getD (m-1) 0) with
   |true=>
    rw [e1] at er;dsimp only at er;rw [AA rfl] at er;subst er;exact⟨rfl,by show 0<m;lia,by show m<=n;lia,h3⟩
   |false=>
    rw [e1] at er;dsimp only at er;rw [A9 (by decide)] at er;have hd:=h3.rev_all (by lia:m<=p.size);obtain⟨t1,t2,t3,t4⟩:=g0_ O (p:=kas_rev p 0 m) (m:=m) (n:=n) (by rw [cd_];exact hn) (by lia) (by lia) hd (by
     rw [cP_ (by lia),cP_ (by lia),A9 (by lia),AA ⟨by lia,by lia⟩,show 0+m-1-(m-1)=0 by lia];cases h:c (at0 p m) (at0 p 0) with
     |true=>rfl
     |false=>have:=O.tr _ _ _ e1 h;rw [st] at this;cases this) r er
    exact⟨by rw [t1,cd_],t2,t3,t4⟩
  .rw [A9 h5] at er;obtain rfl:m=1:=by lia
   exact g0_ O hn (by lia) (by decide) (fun i j a b=>absurd b (by lia)) st r er
theorem dN_ (O:Ordr c) {p:Array Nat}{k:Nat} (hu:Up c p k):∀(f l r:Nat),r-l<=f->l<=r->r<=k->(∀i,i<l->c (at0 p k) (at0 p i)=false)->(∀i,r<=i->i<k->c (at0 p k) (at0 p i)=true)->
  cn_ c (kas_place p k f l r)<=k/\(∀i,i<cn_ c (kas_place p k f l r)->c (at0 p k) (at0 p i)=false)/\(∀i,cn_ c (kas_place p k f l r)<=i->i<k->c (at0 p k) (at0 p i)=true)
 |0,l,r,hf,hl,hr,h1,h2=>by
  obtain rfl:l=r:=by lia
  exact⟨hr,h1,h2⟩
 |f+1,l,r,hf,hl,hr,h1,h2=>by
  unfold kas_place;by_cases h:l>=r
  .rw [AA h];obtain rfl:l=r:=by lia
   exact⟨hr,h1,h2⟩
  .rw [A9 h];unfold cn_;cases e:c (p.getD k 0) (p.getD ((l+r)/2) 0) with
   |true=>
    dsimp only;rw [AA rfl];refine dN_ O hu f l ((l+r)/2) (by lia) (by lia) (by lia) h1 fun i a b=> ?_;by_cases hi:i=(l+r)/2
    .subst hi;exact e
    .cases q:c (at0 p k) (at0 p i) with
     |true=>rfl
     |false=>have:=O.tr _ _ _ (hu ((l+r)/2) i (by lia) b) q;rw [e] at this;cases this
   |false=>
    dsimp only;rw [A9 (by decide)];refine dN_ O hu f ((l+r)/2+1) r (by lia) (by lia) hr (fun i a=> ?_) h2;by_cases hi:i=(l+r)/2
    .subst hi;exact e
    .exact O.tr _ _ _ (hu i ((l+r)/2) (by lia) (by lia)) e
theorem nX_ {p:Array Nat}{k d:Nat} (hk:k<p.size) (hd:d<=k) (i:Nat):at0 (bubble p k d) i=if i=k-d then at0 p k else if k-d<i/\i<=k then at0 p (i-1) else at0 p i:=by
 have h:=getElem?_bubble hk d hd i;have e:∀q:Array Nat,∀k,at0 q k=(q[k]?).getD 0:=fun q k=>by simp [at0,Array.getD];split<;>simp [*]
 rw [e,e,e,e,h];split
 .rfl
 .split<;>rfl
theorem iU_ (O:Ordr c):∀(f:Nat) (p:Array Nat) (k:Nat),0<k->k+f<=p.size->Up c p k->Up c (cn_ c (kas_bin f p k)) (k+f)
 |0,p,k,_,_,h=>h
 |f+1,p,k,h0,hs,hu=>by
  unfold kas_bin;rw [b7_];obtain⟨a1,a2,a3⟩:=dN_ O hu k 0 k (by lia) (by lia) (A7 _) (fun i z=>absurd z (by lia)) (fun i z1 z2=>absurd z2 (by lia));generalize cn_ c (kas_place p k k 0 k)=l at*
  have hu2:Up c (bubble p k (k-l)) (k+1):=by
   intro i j hij hj;rw [nX_ (by lia) (by lia),nX_ (by lia) (by lia),show k-(k-l)=l by lia];by_cases j1:j=l
   .rw [AA j1,A9 (by lia),A9 (by lia)];exact a2 i (by lia)
   .rw [A9 j1];by_cases j2:l<j/\j<=k
    .rw [AA j2];by_cases i1:i=l
     .rw [AA i1];exact O.asym _ _ (a3 (j-1) (by lia) (by lia))
     .rw [A9 i1];by_cases i2:l<i/\i<=k
      .rw [AA i2];exact hu _ _ (by lia) (by lia)
      .rw [A9 i2];exact hu _ _ (by lia) (by lia)
    .rw [A9 j2,A9 (by lia),A9 (by lia)];exact hu _ _ hij (by lia)
  have:=iU_ O f (bubble p k (k-l)) (k+1) (by lia) (by rw [bubble_size];lia) hu2;rw [show k+(f+1)=k+1+f by lia];exact this
theorem lk_ (O:Ordr c) {n:Nat} (h0:0<n):Up c (cn_ c (kas_sort n)) n:=by
 unfold kas_sort;rw [b7_];obtain⟨r1,r2,r3,r4⟩:=jP_ O (p:=List.toArray (List.range n)) (n:=n) (by simp) h0 _ rfl;generalize cn_ c (kas_count n (List.toArray (List.range n)))=r at*
 have sz:r.2.size=n:=by rw [r1];simp
 by_cases h:r.1<n
 .rw [AA h];have em:max r.1 1=r.1:=by lia
  rw [em];have:=iU_ O (n-r.1) r.2 r.1 r2 (by lia) r4;rw [show r.1+(n-r.1)=n by lia] at this;exact this
 .rw [A9 h];have:r.1=n:=by lia
  rw [this] at r4;exact r4
end
end L2
namespace L2
open PySem PySem.Spec PyProof.Rows PySem.W
theorem aY_.wpc {n:Nat}{c:Nat->Nat->Bool}{α:Type}{R:α->Prop}{cmp:Nat->Nat->(Bool->Shared->Prop)->Shared->Prop}{Q:α->Shared->Prop}{s:Shared} (hc:∀i j,i<n->j<n->∀C:Bool->Shared->Prop,C (c i j) s->cmp i j C s):∀{t:KasT α},(R (cn_ c t)->Q (cn_ c t) s)->aY_ n R t->t.kasWp cmp Q s
 | .ret a,hq,h=>hq h
 | .ask i j k,hq,h=>hc i j h.1 h.2.1 _ (aY_.wpc hc (t:=k (c i j)) hq (h.2.2 (c i j)))
theorem li_:∀{xs ys zs:List Int},xs.length=ys.length->ys.length=zs.length->jO_ false ys xs=false->jO_ false zs ys=false->jO_ false zs xs=false
 |[],[],[],_,_,_,_=>rfl
 |x::xs,y::ys,z::zs,h1,h2,a,b=>by
  unfold jO_ at a b⊢;by_cases e1:y=x
  .rw [AA e1] at a;by_cases e2:z=y
   .rw [AA e2] at b;rw [AA (e2.trans e1)];exact li_ (by simpa using h1) (by simpa using h2) a b
   .rw [A9 e2] at b;have:=of_decide_eq_false b;rw [A9 (by lia)];exact Ak (by lia)
  .rw [A9 e1] at a;have a:=of_decide_eq_false a;by_cases e2:z=y
   .rw [A9 (by lia)];exact Ak (by lia)
   .rw [A9 e2] at b;have:=of_decide_eq_false b;rw [A9 (by lia)];exact Ak (by lia)
theorem gY_:∀{xs ys:List Int},xs.length=ys.length->jO_ false xs ys=true->jO_ false ys xs=false
 |[],[],_,h=>nomatch h
 |x::xs,y::ys,hl,h=>by
  unfold jO_ at h⊢;by_cases e:x=y
  .rw [AA e] at h;rw [AA e.symm];exact gY_ (by simpa using hl) h
  .rw [A9 e] at h;have:=At h;rw [A9 (by lia)];exact Ak (by lia)
theorem iO_ {xs ys:List Int} (h:xs.length=ys.length):ltI xs ys=jO_ false xs ys:=by
 unfold ltI;rw [Ak (by lia)]
def pq_ (xss:List (List Int)) (i:Nat):List Int:=xss.getD i (xss.headD [])
def po_ (xss:List (List Int)) (i j:Nat):Bool:=ltI (pq_ xss i) (pq_ xss j)
theorem ln_ {xss:List (List Int)}{i:Nat} (h:i<xss.length):pq_ xss i=xss.getD i []:=by
 unfold pq_;rw [A5,A5,A3 h];rfl
theorem kY_ {xss:List (List Int)}{i j:Nat} (hi:i<xss.length) (hj:j<xss.length):po_ xss i j=ltI (xss.getD i []) (xss.getD j []):=by
 unfold po_;rw [ln_ hi,ln_ hj]
theorem mT_ {xss:List (List Int)}{m:Nat} (h0:0<xss.length) (h:∀xs∈xss,xs.length=m) (i:Nat):(pq_ xss i).length=m:=by
 unfold pq_;rw [A5];cases e:xss[i]? with
 |some x=>exact h x (AS e)
 |none=>
  cases xss with
  |nil=>cases h0
  |cons x xs=>exact h x (by simp)
theorem oI_ {xss:List (List Int)}{m:Nat} (h0:0<xss.length) (h:∀xs∈xss,xs.length=m):Ordr (po_ xss):=by
 have k:=mT_ h0 h;refine⟨fun a b e=> ?_,fun a b d e1 e2=> ?_⟩
 .unfold po_ at e⊢;rw [iO_ (by rw [k,k])] at e⊢;exact gY_ (by rw [k,k]) e
 .unfold po_ at e1 e2⊢;rw [iO_ (by rw [k,k])] at e1 e2⊢;exact li_ (by rw [k,k]) (by rw [k,k]) e1 e2
section
variable {prog:Program}{w:World}{A:Around}{E:Value->Shared->Prop}{s:Shared}
theorem kq_ {c:Nat->Nat->Bool}{kd:SortKind}{a:Addr}{vs:List Value}{n:Nat}{P:PySem.Fin->Shared->Prop} (ho:s.heap.get? a=some (seqObj "list" vs.toArray n)) (h2:2<=vs.length) (h64:vs.length<64)
  (hkd:∀(R:SortKind->Shared->Prop),R kd {s with heap:=aI_ s.heap a vs}->wpAny (model prog w) A (keyKind' vs.toArray) R E {s with heap:=aI_ s.heap a vs})
  (hc:∀i j,i<vs.length->j<vs.length->∀C:Bool->Shared->Prop,C (c i j) {s with heap:=aI_ s.heap a vs}->wpAny (model prog w) A (keyLt' kd (vs.getD i .none) (vs.getD j .none)) C (fun _ _=>False) {s with heap:=aI_ s.heap a vs})
  (h:∀p,Ord vs.length p->p=cn_ c (kas_sort vs.length)->P (.done (.ret .none)) {s with heap:=sortedHeap s.heap a vs (p.map fun i=>vs.getD i .none)}):wpAny (model prog w) A (Builtin.«list.sort» ⟨[.ref a],[]⟩) P E s:=by
 rw [list_sort_plain];have ha:a<s.heap.objs.size:=AG ho;refine A0 (listItems_at ho rfl ?_);refine A0 (CU ho rfl ?_ (by rw [AC,As];lia) (AK _));obtain⟨e1,ho1⟩:∃e1,(s.heap.update a (Obj.mapSeq fun _=>(#[]:Array Value))).get? a=some (seqObj "list" #[] e1):=⟨_,CS ho (fun _=> #[])⟩;refine A0 (seqEpoch_at ho1 rfl ?_);refine A0 (wpAny_newTuple ?_ (by show vs.length<=_;rw [As];lia));refine A0 (D7 ?_ (AK _));refine An ?_;have ho6:(aI_ s.heap a vs).get? a=some (seqObj "list" #[] e1):=by
  rw [Ay _ _ _ (by rw [Bn,Ax];exact AJ (AV ha)),Ay _ _ _ (by rw [Ax];exact AJ ha)];exact ho1
 show wpAny (model prog w) A _ P E {s with heap:=aI_ s.heap a vs};dsimp only;have hn2:¬vs.toArray.size<2:=by rw [AC];lia
 rw [A9 hn2,A9 hn2];refine A0 (hkd _ ?_);have est:kas_st kd (pairsOf vs) (List.toArray (List.range vs.length))=SortSt.mk' kd (vs.toArray.zip vs.toArray) #[] 7 none:=by
  have e:=kas_range (pairsOf vs);rw [pairsOf_size] at e;show SortSt.mk' kd ((List.toArray (List.range vs.length)).map (kas_item (pairsOf vs))) #[] 7 none=SortSt.mk' kd (pairsOf vs) #[] 7 none;rw [e]
 have ask:(kas_sort vs.length).kasWp (kas_cmp prog w A kd (pairsOf vs)) (fun p s'=>s'={s with heap:=aI_ s.heap a vs}/\Ord vs.length p/\p=cn_ c (kas_sort vs.length)) {s with heap:=aI_ s.heap a vs}:=by
  refine aY_.wpc (c:=c) (fun i j hi hj C hC=> ?_) (fun hp=>⟨rfl,hp,rfl⟩) (k9_ (by lia));rw [<-kas_ask_eq];exact hc i j hi hj C hC
 have run:=kas_runs (E:=E) (Q:=fun _ st' s'=>∃p,s'={s with heap:=aI_ s.heap a vs}/\(Ord vs.length p/\p=cn_ c (kas_sort vs.length))/\arrOf st'=p.map (kas_item (pairsOf vs))/\failedOf st'=none) h2 h64 (fun p' st' s' _ a2 a3 a4=>⟨p',a4.1,a4.2,a2,a3⟩) ask;rw [est] at run;refine A0 (BG run ?_ fun _ _ e=>e);rintro⟨⟨⟩,st'⟩ s' ⟨p,rfl,⟨hp,hpc⟩,har,hf⟩;dsimp only at har hf⊢;have eo:(arrOf st').map (·.2)=p.map fun i=>vs.getD i .none:=by
  rw [har,Array.map_map];refine Array.map_congr_left fun i _=> ?_;show(kas_item (pairsOf vs) i).2=_;rw [kas_item_eq]
 rw [eo];refine A0 (seqEpoch_at ho6 rfl ?_);refine A0 (CU ho6 rfl ?_ (AK _) (by rw [Array.size_map,As,hp.size];lia));rw [hf];simp only [Cd,AF,Ah];exact A2 (h p hp hpc)
end
section
variable {X:Cx}{pins:List (Addr×Obj)}{σ:St}{H:Hp}{s:Shared}
end
end L2
namespace L2
open PySem PySem.Spec PyProof.Rows
section
variable {X:Cx}{K:W.Frag}
end
end L2
namespace HT
open PySem PySem.Spec PyProof.Rows
section
variable {prog:Program}{w:World}{A:Around}{E:Value->Shared->Prop}{s:Shared}
theorem getItem_tuple_all {t sl:Addr}{items:Array Value}{vl vu:Value}{lo hi:Option Int}{Q:Value->Shared->Prop} (ht:IsTup s.heap t items) (hs:s.heap.IsSliceOf sl vl vu .none) (pl:IsPart vl lo) (pu:IsPart vu hi)
  (hw:sIx items.size 0 lo=0/\sIx items.size items.size hi=items.size) (h:Q (.ref t) s):wpAny (model prog w) A (getItem (.ref t) (.ref sl)) Q E s:=by
 obtain⟨os,hos,hcs,hds⟩:=id hs;have hTs:s.TypeIs (.ref sl) "slice":=⟨os,hos,hcs⟩;unfold getItem;try with_reducible refine An ?_
 first|refine A0 (A2 ?_)|skip
 refine A0 (wpAny_sequenceKey ht.typeIs (by decide) ?_);refine A0 (Ap (name:=Str.ofString "__getitem__") ht.typeIs BA
  (AY BA ht.typeIs entry_tuple_getitem ?_ (args_tuple_getitem _ _)))
 show wpAny _ _ (Builtin.Tuple.tupleItemsOf (.ref t)>>=_) _ _ s;refine A0 (tupleItemsOf_ ht ?_);refine A0 (DF hTs ?_);rw [AA (by decide)];refine A0 (ch_ hs pl pu ?_);have hyes:(((sIx items.size 0 lo:Nat):Int)==0&&(1:Int)==1&&(sIx items.size items.size hi-sIx items.size 0 lo)==items.size)=true:=by
  rw [hw.1,hw.2];simp
 show wpAny _ _ (if(((sIx items.size 0 lo:Nat):Int)==0&&(1:Int)==1&&(sIx items.size items.size hi-sIx items.size 0 lo)==items.size)=true then _ else _) _ _ s;rw [AA hyes];unfold Builtin.Tuple.tupleIsExact;refine A0 (A0 (DF ht.typeIs (A2 ?_)));rw [AA (by decide)];refine A0 (D1 ?_);exact A2 ⟨_,rfl,A2 h⟩
end
end HT
namespace L2
open PySem PySem.Spec PyProof.Rows
section
variable {X:Cx}
def sS_ (K:W.Frag):V->Option Int->Option Int->Hp->VK->Prop:=fun x lo hi H Q=>∃a xs,x= .ref a/\SqT K H a xs/\
 ((HT.sIx xs.length 0 lo=0/\HT.sIx xs.length xs.length hi=xs.length)->Q (.ref a) H)/\(¬(HT.sIx xs.length 0 lo=0/\HT.sIx xs.length xs.length hi=xs.length)->∀p,H p=none->Q (.ref p) (upd H p (.tup (go_ xs lo hi))))
theorem on_:SlR X (sS_ X.K):=by
 intro pins s σ H x v vl vu lo hi sl Q I rx hs pl pu h;obtain⟨a,xs,rfl,hx,q1,q2⟩:=h;by_cases hw:HT.sIx xs.length 0 lo=0/\HT.sIx xs.length xs.length hi=xs.length
 .cases rx;obtain⟨its,r,ht,hz⟩:=I.tuple hx;have hlen:its.toArray.size=xs.length:=by rw [AC];exact r.length.symm
  refine⟨"tuple",_,BA.lookup,ht.typeIs, ?_⟩;exact HT.getItem_tuple_all ht hs pl pu (by rw [hlen];exact hw) ⟨.ref a,H,I,rfl,q1 hw⟩
 .exact pY_ pins s σ H _ v vl vu lo hi sl Q I rx hs pl pu ⟨a,xs,rfl,hx,hw,q2 hw⟩
end
end L2
namespace L2
open PySem PySem.Spec PyProof.Rows PySem.W
section
variable {c:Nat->Nat->Bool}
end
section
variable {X:Cx}{pins:List (Addr×Obj)}{σ:St}{H:Hp}{s:Shared}
def bvs (bs:List Bool):Array Value:=(bs.map Value.bool).toArray
def EqT (K:W.Frag) (H:Hp) (n:Nat) (x y:V) (e:Bool):Prop:=∀(X:Cx) (pins:List (Addr×Obj)) (σ:St) (s:Shared),X.K=K->Inv X pins σ H s->∀(A:Around) (u v:Value),A.units+n<cLine->aV_ x u->aV_ y v->SeqAt.EqAt A s u v e
theorem EqR.told {K:W.Frag}{n:Nat}{x y:V}{e:Bool} (h:EqR K H n x y e):EqT K H n x y e:=fun X pins σ s hk I A u v hu ru rv=>by
 subst hk;exact(h.at_ I (A:=A) hu ru rv).2.2
def pj_ (K:W.Frag) (H:Hp) (n:Nat) (xs:List V) (x:V) (es:Nat->Bool):Prop:=n<=8/\(∀(j:Nat) z,xs[j]? =some z->(∃a,z= .ref a)/\EqT K H n z x (es j))/\∀(i j:Nat) z,xs[i]? =some z->xs[j]? =some z->es i=es j
open Classical in
theorem hd_ {n:Nat}{xs:List V}{x:V}{es:Nat->Bool}{its:List Value} (t:pj_ X.K H n xs x es) (r:aP_ xs its) {j:Nat}{u:Value} (hu:its[j]? =some u):he_ its es u=es j:=by
 have same:∀i:Nat,its[i]? =some u->es i=es j:=fun i hi=>by
  have li:=(AD.mp hi).1;have lj:=(AD.mp hu).1;have ln:=r.length;have xi:xs[i]? =some xs[i]:=A3 (by lia);have xj:xs[j]? =some xs[j]:=A3 (by lia);obtain⟨u1,e1,r1⟩:=r.get xi;obtain⟨u2,e2,r2⟩:=r.get xj;rw [hi] at e1;rw [hu] at e2;cases e1;cases e2;obtain⟨⟨a,ea⟩,_⟩:=t.2.1 i _ xi;obtain⟨⟨b,eb⟩,_⟩:=t.2.1 j _ xj;rw [ea] at r1 xi;rw [eb] at r2 xj;obtain rfl:u=Value.ref a:=r1;have:Value.ref a=Value.ref b:=r2;cases this;exact t.2.2 i j _ xi xj
 unfold he_;cases h:es j with
 |true=>exact BC ⟨j,hu,h⟩
 |false=>exact Ak fun⟨i,hi,e⟩=>by rw [same i hi,h] at e;cases e
def ot_ (K:W.Frag):V->List V->Hp->VK->Prop:=fun o vs H Q=>∃(p:Addr) (xs:List V) (x:V) (n:Nat) (es:Nat->Bool),o= .ref p/\vs=[x]/\SqL K H p xs/\pj_ K H n xs x es/\Q (.int (((List.range xs.length).countP es:Nat):Int)) H
theorem k5_ {k:Nat} (hr:Room k X.A):MtM X "list.count" (ot_ X.K):=by
 intro pins s σ H o vs v us Q I ro rv h;obtain⟨p,xs,x,n,es,rfl,rfl,hq,t,q⟩:=h;cases ro;obtain⟨u,rfl,ru⟩:=aP_.one rv;have hu:=hr.un;have t8:=t.1;obtain⟨its,r,pl,hz⟩:=I.list hq;have ln:=r.length;obtain⟨⟨cls,dd,data,sl⟩,ho,hc,m,hd⟩:=pl.isList;simp only at hc hd;subst hc hd;have ec:its.toArray.toList.countP (he_ its es)=(List.range xs.length).countP es:=by
  have e1:its=(List.range its.length).map fun i=>its.getD i .none:=by
   refine List.ext_getElem (by simp) fun i h1 h2=> ?_;simp [h1]
  have e2:its.countP (he_ its es)=((List.range its.length).map fun i=>its.getD i .none).countP (he_ its es):=by rw [<-e1]
  show its.countP (he_ its es)=_;rw [e2,List.countP_map,ln];refine List.countP_congr fun i hi=> ?_;have hi':i<its.length:=by simpa using hi
  have:he_ its es (its.getD i .none)=es i:=hd_ t r (by rw [A5,A3 hi'];rfl);simp only [Function.comp_apply,this]
 refine DG F.slot_list_count ⟨_,ho,rfl⟩ F.entry_list_count (F.args_list_count_2 _ _) (SeqAt.list_countAt p its.toArray m dd sl u (he_ its es)) ⟨ho,fun y hy=> ?_, ?_⟩
 .obtain⟨j,hj,e⟩:=BW.mp (by simpa using hy);have ej:its[j]? =some y:=by rw [A3 hj,e]
  have xj:xs[j]? =some xs[j]:=A3 (by lia);obtain⟨u2,e2,r2⟩:=r.get xj;rw [ej] at e2;cases e2;rw [hd_ t r ej];exact(t.2.1 j _ xj).2 X pins σ s rfl I _ _ _ (by rw [aK_];lia) r2 ru
 rw [ec];exact⟨.int _,H,I.tok _,⟨_,rfl⟩,q⟩
end
end L2
namespace L2
open PySem PySem.SetTable
def bS_ (m:Nat) (p:Probe):Probe:=advance {mask:=m,place:= #[],dummies:= #[],finger:=0,led:=true,moves:=0,plain:=true} p
def pAt (m:Nat) (h:Int):Nat->Probe
 |0=>probeStart {mask:=m,place:= #[],dummies:= #[],finger:=0,led:=true,moves:=0,plain:=true} h
 |n+1=>bS_ m (pAt m h n)
def sl (m:Nat) (h:Int) (n:Nat):Nat:=(pAt m h n).j
theorem q1_ (t:SetTable) (p:Probe):advance t p=bS_ t.mask p:=rfl
theorem ey_ {m:Nat}{p:Probe} (h:p.dummy=none):(bS_ m p).dummy=none:=by
 unfold bS_ advance;split<;>exact h
theorem ez_ (m:Nat) (h:Int):∀n,(pAt m h n).dummy=none
 |0=>rfl
 |n+1=>ey_ (ez_ m h n)
def Ris (xs:Array Nat):Prop:=∀i j,i<j->j<xs.size->xs.getD i 0<xs.getD j 0
theorem jb_ {xs:Array Nat}{i:Nat} (h:i<xs.size) (a b:Nat):xs.getD i a=xs.getD i b:=by simp [Array.getD,h]
theorem gs_ {xs:Array Nat}{j:Nat} (r:Ris xs):∀(f lo hi:Nat),hi-lo<=f->lo<=hi->hi<=xs.size->(∀i,i<lo->xs.getD i 0<j)->(∀i,hi<=i->i<xs.size->j<=xs.getD i 0)->
  lo<=below.go xs j f lo hi/\below.go xs j f lo hi<=hi/\(∀i,i<below.go xs j f lo hi->xs.getD i 0<j)/\(∀i,below.go xs j f lo hi<=i->i<xs.size->j<=xs.getD i 0)
 |0,lo,hi,hf,hl,hh,h1,h2=>by
  unfold below.go;have:lo=hi:=by lia
  subst this;exact⟨A7 _,A7 _,h1,h2⟩
 |f+1,lo,hi,hf,hl,hh,h1,h2=>by
  unfold below.go;by_cases c:lo<hi
  .rw [AA c];dsimp only;have hm:(lo+hi)/2<xs.size:=by lia
   by_cases c2:xs.getD ((lo+hi)/2) j<j
   .rw [AA c2];rw [jb_ hm j 0] at c2;obtain⟨a,b,c,d⟩:=gs_ r f ((lo+hi)/2+1) hi (by lia) (by lia) hh (fun i hi'=>by
     by_cases e:i=(lo+hi)/2
     .rw [e];exact c2
     .exact Nat.lt_trans (r i _ (by lia) hm) c2) h2
    exact⟨by lia,b,c,d⟩
   .rw [A9 c2];rw [jb_ hm j 0] at c2;obtain⟨a,b,c,d⟩:=gs_ r f lo ((lo+hi)/2) (by lia) (by lia) (by lia) h1 (fun i h3 h4=>by
     by_cases e:i=(lo+hi)/2
     .rw [e];lia
     .have:=r ((lo+hi)/2) i (by lia) h4;lia)
    exact⟨a,by lia,c,d⟩
  .rw [A9 c];have:lo=hi:=by lia
   subst this;exact⟨A7 _,A7 _,h1,h2⟩
theorem dx_ {xs:Array Nat} (r:Ris xs) (j:Nat):below xs j<=xs.size/\(∀i,i<below xs j->xs.getD i 0<j)/\(∀i,below xs j<=i->i<xs.size->j<=xs.getD i 0):=by
 obtain⟨_,b,c,d⟩:=gs_ (j:=j) r xs.size 0 xs.size (by lia) (AK _) (A7 _) (fun i h=>absurd h (by lia)) (fun i h1 h2=>by lia);exact⟨b,c,d⟩
def In (xs:Array Nat) (j:Nat):Prop:=∃i,i<xs.size/\xs.getD i 0=j
theorem jo_ {xs:Array Nat} (r:Ris xs) {i:Nat} (hi:i<xs.size):below xs (xs.getD i 0)=i:=by
 obtain⟨a,b,c⟩:=dx_ r (xs.getD i 0);by_cases h:below xs (xs.getD i 0)<i
 .have:=c _ (A7 _) (by lia);have:=r _ _ h hi;lia
 .by_cases h2:i<below xs (xs.getD i 0)
  .have:=b i h2;lia
  .lia
theorem gC_ {t:SetTable} (r:Ris t.place) {i:Nat} (hi:i<t.place.size):t.slot (t.place.getD i 0)= .live i:=by
 unfold slot;dsimp only;rw [jo_ r hi,AA];simp [Array.getD,hi]
theorem lA_ (j:Nat):has #[] j=false:=by unfold has;simp
theorem jA_ {t:SetTable} (r:Ris t.place) (hd:t.dummies= #[]) {j:Nat} (h:¬In t.place j):t.slot j= .empty:=by
 unfold slot;dsimp only;have e:(t.place[below t.place j]? ==some j)=false:=by
  cases q:t.place[below t.place j]? with
  |none=>rfl
  |some x=>
   obtain⟨hl,e⟩:=Br.mp q;have:x≠j:=fun z=>h ⟨_,hl,by simp [Array.getD,hl,e,z]⟩;simpa using this
 rw [e,hd,lA_];rfl
theorem nK_ (xs:Array Nat) (j:Nat):In xs j\/¬In xs j:=Classical.em _
theorem probe_go {t : SetTable} (r : Ris t.place) (hd : t.dummies = #[]) (hashAt : Nat -> Int) (h : Int) : ∀ (f n0 : Nat), (∃ n1, n0 <= n1 /\ n1 < n0 + f /\ ¬ In t.place (sl t.mask h n1)) ->
    ∃ n, n0 <= n /\ (∀ k, n0 <= k -> k < n -> ∃ i, i < t.place.size /\ t.place.getD i 0 = sl t.mask h k /\ (hashAt i == h) = false) /\
      ((¬ In t.place (sl t.mask h n) /\ probe.go t hashAt h f (pAt t.mask h n0) = some (.empty (sl t.mask h n) none)) \/
       ∃ i, i < t.place.size /\ t.place.getD i 0 = sl t.mask h n /\ (hashAt i == h) = true /\ probe.go t hashAt h f (pAt t.mask h n0) = some (.candidate (sl t.mask h n) i (pAt t.mask h (n + 1))))
  | 0, n0, ⟨n1, h1, h2, _⟩ => absurd h2 (by lia)
  | f + 1, n0, ⟨n1, h1, h2, h3⟩ => by
    unfold probe.go;rcases nK_ t.place (sl t.mask h n0) with c | c
    . obtain ⟨i, hi, e⟩ := c
      have sl' : t.slot (pAt t.mask h n0).j = .live i := by
        show t.slot (sl t.mask h n0) = _;rw [<- e]; exact gC_ r hi
      rw [sl'];dsimp only;cases q : (hashAt i == h) with
      | true =>
        refine ⟨n0, A7 _, fun k h1 h2 => absurd h2 (by lia), .inr ⟨i, hi, e, q, ?_⟩⟩;rw [AA rfl];rfl
      | false =>
        have ne : n0 ≠ n1 := by rintro rfl; exact h3 ⟨i, hi, e⟩
        obtain ⟨n, a, b, c⟩ := probe_go r hd hashAt h f (n0 + 1) ⟨n1, by lia, by lia, h3⟩;refine ⟨n, by lia, fun k k1 k2 => ?_, ?_⟩
        . by_cases ek : k = n0
          . subst ek; exact ⟨i, hi, e, q⟩
          . exact b k (by lia) k2
        . rw [A9 (by simp), q1_]
          exact c
    . have sl' : t.slot (pAt t.mask h n0).j = .empty := jA_ r hd c
      rw [sl'];refine ⟨n0, A7 _, fun k h1 h2 => absurd h2 (by lia), .inl ⟨c, ?_⟩⟩;dsimp only;rw [ez_];rfl
def nH_ (m:Nat) (q:Nat×Nat):Nat×Nat:=leap m q.1 q.2
def e9_ (m:Nat) (q:Nat×Nat):Probe:={j:=q.1,more:=runEnd m q.1-q.1,i:=q.1,perturb:=q.2,dummy:=none}
def bj_ (m:Nat) (q:Nat×Nat):Nat->Nat×Nat
 |0=>q
 |n+1=>nH_ m (bj_ m q n)
theorem kA_ (m i:Nat):runEnd m i-i<=9:=by unfold runEnd;split<;>lia
def c6_ (m:Nat) (p:Probe):Nat->Probe
 |0=>p
 |n+1=>bS_ m (c6_ m p n)
theorem eH_ (m:Nat) (p:Probe) (a:Nat):∀b,c6_ m p (a+b)=c6_ m (c6_ m p a) b
 |0=>rfl
 |b+1=>by show bS_ m (c6_ m p (a+b))=_;rw [eH_ m p a b];rfl
theorem dl_ (m:Nat) (h:Int) (a:Nat):∀b,pAt m h (a+b)=c6_ m (pAt m h a) b
 |0=>rfl
 |b+1=>by show bS_ m (pAt m h (a+b))=_;rw [dl_ m h a b];rfl
theorem fK_ (m:Nat):∀(k:Nat) (p:Probe),p.more=k->p.dummy=none->c6_ m p (k+1)=e9_ m (nH_ m (p.i,p.perturb))
 |0,p,hm,hd=>by
  show bS_ m p=_;unfold bS_ advance;rw [A9 (by lia)];obtain⟨j,mo,i,pe,du⟩:=p;dsimp only at hm hd;subst hm hd;rfl
 |k+1,p,hm,hd=>by
  have e:c6_ m p (k+1+1)=c6_ m (bS_ m p) (k+1):=by rw [show k+1+1=1+(k+1) by lia,eH_];rfl
  have en:bS_ m p={p with j:=p.j+1,more:=p.more-1}:=by
   unfold bS_ advance;rw [AA (by lia)]
  rw [e,fK_ m k (bS_ m p) (by rw [en];show p.more-1=k;lia) (ey_ hd),en]
theorem far (m:Nat):∀(L:Nat) (p:Probe),p.more<=9->p.dummy=none->∃n,n<=10*(L+1)/\c6_ m p n=e9_ m (bj_ m (p.i,p.perturb) (L+1))
 |0,p,h9,hd=>⟨p.more+1,by lia,fK_ m p.more p rfl hd⟩
 |L+1,p,h9,hd=>by
  obtain⟨n,hn,e⟩:=far m L p h9 hd;have:=kA_ m (bj_ m (p.i,p.perturb) (L+1)).1;refine⟨n+(runEnd m (bj_ m (p.i,p.perturb) (L+1)).1-(bj_ m (p.i,p.perturb) (L+1)).1+1),by lia, ?_⟩;rw [eH_,e];exact fK_ m _ (e9_ m (bj_ m (p.i,p.perturb) (L+1))) rfl rfl
def Tm (m i:Nat):Nat:=(i*5+1)%(m+1)
def Tn (m i:Nat):Nat->Nat
 |0=>i
 |n+1=>Tm m (Tn m i n)
theorem hv_ (m i a:Nat):∀b,Tn m i (a+b)=Tn m (Tn m i a) b
 |0=>rfl
 |b+1=>by show Tm m (Tn m i (a+b))=_;rw [hv_ m i a b];rfl
theorem dt_ (m:Nat) (q:Nat×Nat) (a:Nat):∀b,bj_ m q (a+b)=bj_ m (bj_ m q a) b
 |0=>rfl
 |b+1=>by show nH_ m (bj_ m q (a+b))=_;rw [dt_ m q a b];rfl
theorem dP_ (m:Nat) (q:Nat×Nat):∀n,(bj_ m q n).2=q.2/32^n
 |0=>by simp [bj_]
 |n+1=>by
  show(bj_ m q n).2/32=_;rw [dP_ m q n,Nat.div_div_eq_div_mul,D4]
theorem dO_ (m:Nat) (i:Nat):∀n,bj_ m (i,0) n=(Tn m i n,0)
 |0=>rfl
 |n+1=>by
  show nH_ m (bj_ m (i,0) n)=_;rw [dO_ m i n];unfold nH_ leap;simp [Tn,Tm]
def Msk (m:Nat):Prop:=m=7\/m=31\/m=127
def orb (m:Nat):Nat->Nat->List Nat
 |0,_=>[]
 |n+1,i=>i::orb m n (Tm m i)
theorem nD_ (m:Nat):∀(n i e:Nat),e∈orb m n i->∃k,k<n/\Tn m i k=e
 |0,_,_,h=>by simp [orb] at h
 |n+1,i,e,h=>by
  rcases AI.mp h with h|h
  .exact⟨0,by lia,h.symm⟩
  .obtain⟨k,hk,e⟩:=nD_ m n (Tm m i) e h;exact⟨k+1,by lia,by rw [show k+1=1+k by lia,hv_];exact e⟩
theorem s2_:(List.range 8).all (fun e=>(orb 7 8 0).contains e)=true:=by ac_nf
theorem r1_:(List.range 32).all (fun e=>(orb 31 32 0).contains e)=true:=by ac_nf
theorem p9_:(List.range 128).all (fun e=>(orb 127 128 0).contains e)=true:=by ac_nf
theorem s1_:Tn 7 0 8=0:=by ac_nf
theorem rY_:Tn 31 0 32=0:=by ac_nf
theorem p4_:Tn 127 0 128=0:=by ac_nf
theorem r0_ {m:Nat} (hm:Msk m):(∀e,e<=m->∃k,k<=m/\Tn m 0 k=e)/\Tn m 0 (m+1)=0:=by
 have go:∀n,(List.range (n+1)).all (fun e=>(orb n (n+1) 0).contains e)=true->∀e,e<=n->∃k,k<=n/\Tn n 0 k=e:=fun n h e he=>by
  have:=Av.mp h e (by simp;lia);obtain⟨k,hk,e⟩:=nD_ n (n+1) 0 e (by simpa using this);exact⟨k,by lia,e⟩
 rcases hm with rfl|rfl|rfl
 .exact⟨go 7 s2_,s1_⟩
 .exact⟨go 31 r1_,rY_⟩
 .exact⟨go 127 p9_,p4_⟩
theorem nT_ {m:Nat} (hm:Msk m) {i e:Nat} (hi:i<=m) (he:e<=m):∃k,k<=m/\Tn m i k=e:=by
 obtain⟨o,p⟩:=r0_ hm;obtain⟨a,ha,rfl⟩:=o i hi;obtain⟨b,hb,rfl⟩:=o e he;by_cases c:a<=b
 .exact⟨b-a,by lia,by rw [<-hv_];congr 1;lia⟩
 .refine⟨m+1-a+b,by lia, ?_⟩;rw [<-hv_,show a+(m+1-a+b)=m+1+b by lia,hv_,p]
theorem lZ_ (h:Int):bits h<2^64:=by unfold bits;lia
theorem r4_ {m:Nat} (hm:Msk m) {p:Probe} (h9:p.more<=9) (hd:p.dummy=none) (hp:p.perturb<2^64) {e:Nat} (he:e<=m):∃n,n<10*turns m/\(c6_ m p n).j=e:=by
 have z:∀L,13<=L->(bj_ m (p.i,p.perturb) L).2=0:=fun L hL=>by
  rw [dP_];apply Nat.div_eq_of_lt;have h1:(32:Nat)^13<=32^L:=C1 (by decide) hL;have h2:(2:Nat)^64<32^13:=by decide
  show p.perturb<_;lia
 have j13:(bj_ m (p.i,p.perturb) 13).1<=m:=by
  show(leap m _ _).1<=m;unfold leap;have:=DA ((bj_ m (p.i,p.perturb) 12).1*5+1+(bj_ m (p.i,p.perturb) 12).2/32) (show 0<m+1 by lia);dsimp only;lia
 obtain⟨k,hk,ek⟩:=nT_ hm j13 he;obtain⟨n,hn,en⟩:=far m (12+k) p h9 hd;refine⟨n,by unfold turns;lia, ?_⟩;rw [en,show 12+k+1=13+k by lia,dt_];have e13:bj_ m (p.i,p.perturb) 13=((bj_ m (p.i,p.perturb) 13).1,0):=Prod.ext rfl (z 13 (A7 _));rw [e13,dO_];exact ek
theorem kW_ (m:Nat) (h:Int):∀n,(pAt m h n).more<=9/\(pAt m h n).perturb<2^64
 |0=>⟨kA_ m _,lZ_ h⟩
 |n+1=>by
  obtain⟨a,b⟩:=kW_ m h n;show(bS_ m (pAt m h n)).more<=9/\(bS_ m (pAt m h n)).perturb<2^64;unfold bS_ advance;split
  .exact⟨by show(pAt m h n).more-1<=9;lia,b⟩
  .unfold leap;dsimp only;exact⟨kA_ _ _,by lia⟩
theorem sr_ {m:Nat} (hm:Msk m) (h:Int) (n0:Nat) {e:Nat} (he:e<=m):∃n1,n0<=n1/\n1<n0+10*turns m/\sl m h n1=e:=by
 obtain⟨n,hn,e⟩:=r4_ hm (kW_ m h n0).1 (ez_ m h n0) (kW_ m h n0).2 he;exact⟨n0+n,by lia,by lia,by unfold sl;rw [dl_];exact e⟩
theorem fj_:∀(k N:Nat) (f:Nat->Nat),(∀j,j<N->∃i,i<k/\f i=j)->N<=k
 |0,N,f,h=>by
  rcases Nat.eq_zero_or_pos N with e|e
  .lia
  .obtain⟨i,hi,_⟩:=h 0 e;lia
 |k+1,N,f,h=>by
  by_cases c:f k<N
  .have:=fj_ k (N-1) (fun i=>if f k<f i then f i-1 else f i) fun j hj=>by
    by_cases e:j<f k
    .obtain⟨i,hi,ei⟩:=h j (by lia);refine⟨i, ?_, ?_⟩
     .by_cases z:i=k
      .subst z;lia
      .lia
     .rw [A9 (by lia)];exact ei
    .obtain⟨i,hi,ei⟩:=h (j+1) (by lia);refine⟨i, ?_, ?_⟩
     .by_cases z:i=k
      .subst z;lia
      .lia
     .rw [AA (by lia)];lia
   lia
  .have:=fj_ k N f fun j hj=>by
    obtain⟨i,hi,ei⟩:=h j hj;refine⟨i, ?_,ei⟩;by_cases z:i=k
    .subst z;lia
    .lia
   lia
def hAt (es:Array (Int×Value)) (i:Nat):Int:=(es[i]?.map (·.1)).getD 0
structure Tb (t:SetTable) (es:Array (Int×Value)):Prop where
 mask:Msk t.mask
 dum:t.dummies= #[]
 size:t.place.size=es.size
 ris:Ris t.place
 bnd:∀i,i<t.place.size->t.place.getD i 0<=t.mask
 reach:∀i,i<es.size->∃n,sl t.mask (hAt es i) n=t.place.getD i 0/\∀k,k<n->In t.place (sl t.mask (hAt es i) k)
theorem Tb.free {t:SetTable}{es:Array (Int×Value)} (b:Tb t es) (h:es.size<=t.mask):∃e,e<=t.mask/\¬In t.place e:=by
 refine Classical.byContradiction fun z=> ?_;have:=fj_ t.place.size (t.mask+1) (fun i=>t.place.getD i 0) fun j hj=>by
  rcases nK_ t.place j with c|c
  .exact c
  .exact absurd ⟨j,by lia,c⟩ z
 have:=b.size;lia
theorem Tb.probe {t : SetTable} {es : Array (Int × Value)} (b : Tb t es) (hs : es.size <= t.mask) (hashAt : Nat -> Int) (h : Int) (n0 : Nat) :
    ∃ n, n0 <= n /\ (∀ k, n0 <= k -> k < n -> ∃ i, i < t.place.size /\ t.place.getD i 0 = sl t.mask h k /\ (hashAt i == h) = false) /\
      ((¬ In t.place (sl t.mask h n) /\ t.probe hashAt h (pAt t.mask h n0) = some (.empty (sl t.mask h n) none)) \/
       ∃ i, i < t.place.size /\ t.place.getD i 0 = sl t.mask h n /\ (hashAt i == h) = true /\ t.probe hashAt h (pAt t.mask h n0) = some (.candidate (sl t.mask h n) i (pAt t.mask h (n + 1)))) := by
  obtain ⟨e, he, hn⟩ := b.free hs;obtain ⟨n1, h1, h2, h3⟩ := sr_ b.mask h n0 he;exact probe_go b.ris b.dum hashAt h _ n0 ⟨n1, h1, h2, by rw [h3]; exact hn⟩
theorem d2_ {α:Type}{xs:Array α}{p:Nat} (hp:p<=xs.size) (x:α) (i:Nat):(insertAt xs p x)[i]? =if i<p then xs[i]? else if i=p then some x else xs[i-1]? :=by
 unfold insertAt;have s1:(xs.extract 0 p).size=p:=by simp;lia
 have s2:((xs.extract 0 p).push x).size=p+1:=by simp;lia
 by_cases h1:i<p
 .rw [AA h1,Array.getElem?_append_left (by rw [s2];lia),Array.getElem?_push,A9 (by rw [s1];lia)];simp [Array.getElem?_extract];lia
 .rw [A9 h1];by_cases h2:i=p
  .rw [AA h2,Array.getElem?_append_left (by rw [s2];lia),Array.getElem?_push,AA (by rw [s1];exact h2)]
  .rw [A9 h2,Array.getElem?_append_right (by rw [s2];lia),s2];simp only [Array.getElem?_extract];by_cases h3:i-(p+1)<xs.size-p
   .rw [AA (by lia)];congr 1
    lia
   .rw [A9 (by lia)];symm;rw [Array.getElem?_eq_none_iff];lia
theorem bk_ {α:Type}{xs:Array α}{p:Nat} (hp:p<=xs.size) (x:α):(insertAt xs p x).size=xs.size+1:=by
 unfold insertAt;simp;lia
theorem gi_ (xs:Array Nat) (i:Nat):xs.getD i 0=(xs[i]?).getD 0:=by
 by_cases h:i<xs.size<;>simp [Array.getD,h]
theorem bT_ {xs:Array Nat}{p:Nat} (hp:p<=xs.size) (x i:Nat):(insertAt xs p x).getD i 0=if i<p then xs.getD i 0 else if i=p then x else xs.getD (i-1) 0:=by
 rw [gi_,d2_ hp,gi_,gi_];split
 .rfl
 .split<;>rfl
theorem qB_ {xs:Array Nat}{p:Nat} (hp:p<=xs.size) (x j:Nat):In (insertAt xs p x) j↔In xs j\/j=x:=by
 constructor
 .rintro⟨i,hi,e⟩;rw [bk_ hp] at hi;rw [bT_ hp] at e;by_cases h1:i<p
  .rw [AA h1] at e;exact .inl ⟨i,by lia,e⟩
  .rw [A9 h1] at e;by_cases h2:i=p
   .rw [AA h2] at e;exact .inr e.symm
   .rw [A9 h2] at e;exact .inl ⟨i-1,by lia,e⟩
 .rintro(⟨i,hi,e⟩|rfl)
  .by_cases h1:i<p
   .exact⟨i,by rw [bk_ hp];lia,by rw [bT_ hp,AA h1];exact e⟩
   .exact⟨i+1,by rw [bk_ hp];lia,by rw [bT_ hp,A9 (by lia),A9 (by lia)];exact e⟩
  .exact⟨p,by rw [bk_ hp];lia,by rw [bT_ hp,A9 (Bo _),AA rfl]⟩
theorem o1_ {xs:Array Nat} (r:Ris xs) {j:Nat} (h:¬In xs j):Ris (insertAt xs (below xs j) j):=by
 obtain⟨a,b,c⟩:=dx_ r j;have c':∀i,below xs j<=i->i<xs.size->j<xs.getD i 0:=fun i h1 h2=>by
  have:=c i h1 h2;have:xs.getD i 0≠j:=fun z=>h ⟨i,h2,z⟩;lia
 intro i k hik hk;rw [bk_ a] at hk;rw [bT_ a,bT_ a];by_cases h1:k<below xs j
 .rw [AA h1,AA (by lia)];exact r i k hik (by lia)
 .rw [A9 h1];by_cases h2:k=below xs j
  .rw [AA h2,AA (by lia)];exact b i (by lia)
  .rw [A9 h2];by_cases h3:i<below xs j
   .rw [AA h3];exact Nat.lt_trans (b i h3) (c' (k-1) (by lia) (by lia))
   .rw [A9 h3];by_cases h4:i=below xs j
    .rw [AA h4];exact c' (k-1) (by lia) (by lia)
    .rw [A9 h4];exact r (i-1) (k-1) (by lia) (by lia)
theorem ny_ (t:SetTable) (hd:t.dummies= #[]) (j:Nat):t.put j=({t with place:=insertAt t.place (below t.place j) j},below t.place j):=by
 unfold put;dsimp only;rw [hd,lA_];obtain⟨a,b,c,d,e,f,g⟩:=t;dsimp only at hd;subst hd;rfl
theorem Tb.add {t:SetTable}{es:Array (Int×Value)} (b:Tb t es) (h:Int) (x:Value) (n:Nat) (hn:¬In t.place (sl t.mask h n)) (hm:sl t.mask h n<=t.mask) (hk:∀k,k<n->In t.place (sl t.mask h k)):
  Tb (t.put (sl t.mask h n)).1 (insertAt es (t.put (sl t.mask h n)).2 (h,x)):=by
 rw [ny_ t b.dum];obtain⟨a1,a2,a3⟩:=dx_ b.ris (sl t.mask h n);have a1':below t.place (sl t.mask h n)<=es.size:=by rw [<-b.size];exact a1
 refine⟨b.mask,b.dum, ?_,o1_ b.ris hn, ?_, ?_⟩
 .rw [bk_ a1,bk_ a1',b.size]
 .intro i hi;dsimp only at hi⊢;rw [bk_ a1] at hi;rw [bT_ a1];split
  .exact b.bnd i (by lia)
  .split
   .exact hm
   .exact b.bnd (i-1) (by lia)
 .intro i hi;dsimp only at hi⊢;rw [bk_ a1'] at hi;have sub:∀j,In t.place j->In (insertAt t.place (below t.place (sl t.mask h n)) (sl t.mask h n)) j:=fun j hj=>(qB_ a1 _ j).mpr (.inl hj);have eh:hAt (insertAt es (below t.place (sl t.mask h n)) (h,x)) i=if i<below t.place (sl t.mask h n) then hAt es i else if i=below t.place (sl t.mask h n) then h else hAt es (i-1):=by
   unfold hAt;rw [d2_ a1'];split
   .rfl
   .split<;>rfl
  rw [bT_ a1,eh];by_cases h1:i<below t.place (sl t.mask h n)
  .rw [AA h1,AA h1];obtain⟨m,e,q⟩:=b.reach i (by lia);exact⟨m,e,fun k hk=>sub _ (q k hk)⟩
  .rw [A9 h1,A9 h1];by_cases h2:i=below t.place (sl t.mask h n)
   .rw [AA h2,AA h2];exact⟨n,rfl,fun k hk'=>sub _ (hk k hk')⟩
   .rw [A9 h2,A9 h2];obtain⟨m,e,q⟩:=b.reach (i-1) (by lia);exact⟨m,e,fun k hk=>sub _ (q k hk)⟩
theorem hP_ {m i:Nat} (h:i<=m):i+(runEnd m i-i)<=m:=by unfold runEnd;split<;>lia
theorem kX_ (m:Nat) (h:Int):∀n,(pAt m h n).j+(pAt m h n).more<=m
 |0=>by
  have:=DA (bits h) (show 0<m+1 by lia);exact hP_ (m:=m) (i:=bits h%(m+1)) (by lia)
 |n+1=>by
  have a:=kX_ m h n;show(bS_ m (pAt m h n)).j+(bS_ m (pAt m h n)).more<=m;unfold bS_ advance;split
  .show(pAt m h n).j+1+((pAt m h n).more-1)<=m;lia
  .unfold leap;dsimp only;have:=DA ((pAt m h n).i*5+1+(pAt m h n).perturb/32) (show 0<m+1 by lia);exact hP_ (by lia)
theorem pZ_ (m:Nat) (h:Int) (n:Nat):sl m h n<=m:=by
 have:=kX_ m h n;unfold sl;lia
abbrev Own:=Array (Option Nat)
def Occ (o:Own) (j:Nat):Prop:=∃k,o[j]? =some (some k)
theorem iD_ (m:Nat) (q:Nat×Nat):∀k,k<=runEnd m q.1-q.1->(c6_ m (e9_ m q) k).j=q.1+k/\(c6_ m (e9_ m q) k).more=runEnd m q.1-q.1-k
 |0,_=>⟨rfl,rfl⟩
 |k+1,h=>by
  obtain⟨a,b⟩:=iD_ m q k (by lia);show(bS_ m (c6_ m (e9_ m q) k)).j=_/\(bS_ m (c6_ m (e9_ m q) k)).more=_;unfold bS_ advance;rw [AA (by lia)];dsimp only;rw [a,b];exact⟨by lia,by lia⟩
theorem fw_ {p:Nat->Bool}:∀(n:Nat),((List.range n).find? p=none/\∀i,i<n->p i=false)\/∃k,k<n/\(List.range n).find? p=some k/\p k=true/\∀i,i<k->p i=false
 |0=> .inl ⟨rfl,fun i h=>absurd h (by lia)⟩
 |n+1=>by
  rw [B6,List.find?_append];rcases fw_ (p:=p) n with⟨a,b⟩|⟨k,h1,h2,h3,h4⟩
  .rw [a];cases c:p n with
   |true=>exact .inr ⟨n,by lia,by simp [c],c,b⟩
   |false=>
    refine .inl ⟨by simp [c],fun i hi=> ?_⟩;by_cases e:i=n
    .rw [e];exact c
    .exact b i (by lia)
  .rw [h2];exact .inr ⟨k,by lia,rfl,h3,h4⟩
theorem lB_ {m:Nat}{o:Own} (hs:o.size=m+1) (h:Int):∀(f:Nat) (q:Nat×Nat) (n:Nat),q.1<=m->pAt m h n=e9_ m q->(∀k,k<n->Occ o (sl m h k))->(∃L,L<f/\¬Occ o (bj_ m q L).1)->
  ∃n',layClean.free m o f q.1 q.2=some (sl m h n')/\¬Occ o (sl m h n')/\∀k,k<n'->Occ o (sl m h k)
 |0,q,n,hq,hp,ho,⟨L,hL,_⟩=>absurd hL (by lia)
 |f+1,q,n,hq,hp,ho,⟨L,hL,hf⟩=>by
  unfold layClean.free;have run:∀k,k<runEnd m q.1+1-q.1->sl m h (n+k)=q.1+k:=fun k hk=>by
   unfold sl;rw [dl_,hp];exact(iD_ m q k (by lia)).1
  have rb:=hP_ hq;have rl:q.1<=runEnd m q.1:=by unfold runEnd;split<;>lia
  have no:∀j,j<=m->(((o.getD j (some 0)).isNone=false->Occ o j)/\((o.getD j (some 0)).isNone=true->¬Occ o j)):=fun j hj=>by
   have hj':j<o.size:=by lia
   have e:o[j]? =some (o.getD j (some 0)):=by simp [Array.getD,hj']
   constructor
   .intro z;cases c:o.getD j (some 0) with
    |none=>rw [c] at z;cases z
    |some k=>exact⟨k,by rw [e,c]⟩
   .rintro z ⟨k,hk⟩;rw [e] at hk;rw [Ac hk] at z;cases z
  rcases fw_ (p:=fun k=>(o.getD (q.1+k) (some 0)).isNone) (runEnd m q.1+1-q.1) with⟨a,b⟩|⟨k,h1,h2,h3,h4⟩
  .rw [a];dsimp only;have all:∀k,k<n+(runEnd m q.1-q.1+1)->Occ o (sl m h k):=fun k hk=>by
    by_cases c:k<n
    .exact ho k c
    .have e:k=n+(k-n):=by lia
     rw [e,run (k-n) (by lia)];exact(no _ (by lia)).1 (b (k-n) (by lia))
   have hj:(nH_ m q).1<=m:=by
    show(leap m _ _).1<=m;unfold leap;have:=DA (q.1*5+1+q.2/32) (show 0<m+1 by lia);dsimp only;lia
   have hp':pAt m h (n+(runEnd m q.1-q.1+1))=e9_ m (nH_ m q):=by
    rw [dl_,hp];exact fK_ m _ (e9_ m q) rfl rfl
   have hL0:L≠0:=by
    rintro rfl;apply hf;have:=(no q.1 hq).1 (b 0 (by unfold runEnd;split<;>lia))
    exact this
   obtain⟨L',rfl⟩:∃L',L=L'+1:=⟨L-1,by lia⟩;exact lB_ hs h f (nH_ m q) _ hj hp' all ⟨L',by lia,by
    rw [show L'+1=1+L' by lia,dt_] at hf;exact hf⟩
  .rw [h2];dsimp only;refine⟨n+k,by rw [run k h1], ?_,fun k' hk'=> ?_⟩
   .rw [run k h1];exact(no _ (by lia)).2 h3
   .by_cases c:k'<n
    .exact ho k' c
    .have e:k'=n+(k'-n):=by lia
     rw [e,run (k'-n) (by lia)];exact(no _ (by lia)).1 (h4 (k'-n) (by lia))
theorem qm_ {m:Nat} (hm:Msk m) (q:Nat×Nat) (hp:q.2<2^64) {e:Nat} (he:e<=m):∃L,L<turns m/\(bj_ m q L).1=e:=by
 have z:(bj_ m q 13).2=0:=by
  rw [dP_];apply Nat.div_eq_of_lt;have h2:(2:Nat)^64<32^13:=by decide
  lia
 have j13:(bj_ m q 13).1<=m:=by
  show(leap m _ _).1<=m;unfold leap;have:=DA ((bj_ m q 12).1*5+1+(bj_ m q 12).2/32) (show 0<m+1 by lia);dsimp only;lia
 obtain⟨k,hk,ek⟩:=nT_ hm j13 he;refine⟨13+k,by unfold turns;lia, ?_⟩;rw [dt_];have e13:bj_ m q 13=((bj_ m q 13).1,0):=Prod.ext rfl z;rw [e13,dO_];exact ek
structure Lay (m:Nat) (hs:List Int) (o:Own) (ss:Nat->Nat):Prop where
 size:o.size=m+1
 at_:∀i,i<hs.length->ss i<=m/\o[ss i]? =some (some i)
 of_:∀j k,o[j]? =some (some k)->k<hs.length/\ss k=j
 reach:∀(i:Nat) h,hs[i]? =some h->∃n,sl m h n=ss i/\∀k,k<n->Occ o (sl m h k)
theorem Lay.step {m:Nat} (hm:Msk m) {hs:List Int}{o:Own}{ss:Nat->Nat} (l:Lay m hs o ss) (h:Int) (hl:hs.length<=m):
  ∃j,layClean.free m o (turns m) (bits h%(m+1)) (bits h)=some j/\∃ss',Lay m (hs++[h]) (o.setIfInBounds j (some hs.length)) ss':=by
 obtain⟨e,he,hne⟩:∃e,e<=m/\¬Occ o e:=by
  refine Classical.byContradiction fun z=> ?_;have:=fj_ hs.length (m+1) ss fun j hj=>by
   rcases Classical.em (Occ o j) with⟨k,hk⟩|c
   .exact⟨k,(l.of_ j k hk).1,(l.of_ j k hk).2⟩
   .exact absurd ⟨j,by lia,c⟩ z
  lia
 obtain⟨L,hL,eL⟩:=qm_ hm (bits h%(m+1),bits h) (lZ_ h) he;have i0:=DA (bits h) (show 0<m+1 by lia);obtain⟨n,e1,e2,e3⟩:=lB_ l.size h (turns m) (bits h%(m+1),bits h) 0 (by lia) rfl (fun k hk=>absurd hk (by lia)) ⟨L,hL,by rw [eL];exact hne⟩;have jm:=pZ_ m h n;have js:sl m h n<o.size:=by rw [l.size];lia
 refine⟨sl m h n,e1,fun i=>if i=hs.length then sl m h n else ss i, ?_⟩;have set_:∀j,(o.setIfInBounds (sl m h n) (some hs.length))[j]? =if j=sl m h n then some (some hs.length) else o[j]? :=fun j=>by
  rw [Array.getElem?_setIfInBounds];by_cases c:sl m h n=j
  .rw [AA c,AA c.symm];simp [<-c,js]
  .rw [A9 c,A9 fun z=>c z.symm]
 have sub:∀j,Occ o j->Occ (o.setIfInBounds (sl m h n) (some hs.length)) j:=fun j ⟨k,hk⟩=>by
  refine⟨k, ?_⟩;rw [set_,A9]
  .exact hk
  .rintro rfl;exact e2 ⟨k,hk⟩
 refine⟨by rw [Array.size_setIfInBounds];exact l.size,fun i hi=> ?_,fun j k hk=> ?_,fun i h' hh'=> ?_⟩
 .rw [AB,BL] at hi;by_cases c:i=hs.length
  .rw [AA c,set_,AA rfl,c];exact⟨jm,rfl⟩
  .rw [A9 c,set_];obtain⟨a,b⟩:=l.at_ i (by lia);refine⟨a, ?_⟩;rw [A9]
   .exact b
   .intro z;rw [z] at b;exact e2 ⟨i,b⟩
 .rw [set_] at hk;rw [AB,BL];by_cases c:j=sl m h n
  .rw [AA c] at hk;cases hk;exact⟨by lia,by rw [AA rfl];exact c.symm⟩
  .rw [A9 c] at hk;obtain⟨a,b⟩:=l.of_ j k hk;exact⟨by lia,by rw [A9 (by lia)];exact b⟩
 .by_cases c:i<hs.length
  .rw [Bv c] at hh';obtain⟨n',a,b⟩:=l.reach i h' hh';rw [A9 (by lia)];exact⟨n',a,fun k hk=>sub _ (b k hk)⟩
  .have hlt:=(AD.mp hh').1;rw [AB,BL] at hlt;obtain rfl:i=hs.length:=by lia
   rw [BD (A7 _),Ce] at hh';cases hh';rw [AA rfl];exact⟨n,rfl,fun k hk=>sub _ (e3 k hk)⟩
def eP_ (m:Nat) (acc:Option (Own×Nat)) (h:Int):Option (Own×Nat):=do
 let (owner,k)<-acc
 let j<-layClean.free m owner (turns m) (bits h%(m+1)) (bits h)
 pure (owner.setIfInBounds j (some k),k+1)
theorem iT_ {m:Nat} (hm:Msk m):∀(more hs:List Int) (o:Own) (ss:Nat->Nat),Lay m hs o ss->hs.length+more.length<=m+1->
  ∃o' ss',more.foldl (eP_ m) (some (o,hs.length))=some (o',(hs++more).length)/\Lay m (hs++more) o' ss'
 |[],hs,o,ss,l,_=>⟨o,ss,by simp,by simpa using l⟩
 |h::more,hs,o,ss,l,hl=>by
  rw [AL] at hl;obtain⟨j,e,ss',l'⟩:=l.step hm h (by lia);obtain⟨o',ss2,e2,l2⟩:=iT_ hm more (hs++[h]) _ ss' l' (by rw [AB,BL];lia);rw [B2,List.singleton_append] at e2 l2;refine⟨o',ss2, ?_,l2⟩;rw [Cy];have es:eP_ m (some (o,hs.length)) h=some (o.setIfInBounds j (some hs.length),(hs++[h]).length):=by
   unfold eP_;simp only [Option.bind_eq_bind,Option.bind_some,e];simp
  rw [es];exact e2
theorem lj_ {m:Nat} (hm:Msk m) (hs:Array Int) (hl:hs.size<=m+1):∃o ss,layClean m hs=some o/\Lay m hs.toList o ss:=by
 have l0:Lay m [] (Array.replicate (m+1) none) (fun _=>0):=⟨by simp,fun i hi=>absurd hi (by simp),fun j k hk=>(by
  rw [Array.getElem?_replicate] at hk;split at hk<;>cases hk),fun i h e=>by simp at e⟩
 obtain⟨o,ss,e,l⟩:=iT_ hm hs.toList [] _ _ l0 (by simpa using hl);refine⟨o,ss, ?_,by simpa using l⟩;unfold layClean;have:hs.foldl (init:=some (Array.replicate (m+1) none,0)) (eP_ m)=some (o,([]++hs.toList).length):=by
  rw [<-Array.foldl_toList];exact e
 have e2:(hs.foldl (init:=some (Array.replicate (m+1) none,0)) fun acc h=>do
  let (owner,k)<-acc
  let j<-layClean.free m owner (turns m) (bits h%(m+1)) (bits h)
  pure (owner.setIfInBounds j (some k),k+1))=hs.foldl (init:=some (Array.replicate (m+1) none,0)) (eP_ m):=rfl
 rw [e2,this];rfl
def bi_ (m:Nat) (o:Own):List (Nat×Nat):=(List.range (m+1)).filterMap fun j=>(o.getD j none).map (j, ·)
theorem f7_ {m:Nat}{o:Own} (hs:o.size=m+1) (j k:Nat):(j,k)∈bi_ m o↔o[j]? =some (some k):=by
 unfold bi_;rw [DB];constructor
 .rintro⟨a,ha,e⟩;obtain⟨k',e1,e2⟩:=A8.mp e;cases e2;have hj:j<o.size:=by rw [hs];simpa using ha
  have e:o[j]? =some (o.getD j none):=by simp [Array.getD,hj]
  rw [e,e1]
 .intro e;obtain⟨hj,e2⟩:=Br.mp e;refine⟨j,by simpa [hs] using hj, ?_⟩;have:o.getD j none=some k:=by simp [Array.getD,hj,e2]
  rw [this];rfl
theorem oU_ (m:Nat) (o:Own):(bi_ m o).Pairwise fun a b=>a.1<b.1:=by
 unfold bi_;rw [List.pairwise_filterMap];refine List.Pairwise.imp ?_ (List.pairwise_lt_range (n:=m+1));intro a b hab x hx y hy;obtain⟨_,_,e1⟩:=A8.mp hx;obtain⟨_,_,e2⟩:=A8.mp hy;rw [<-e1,<-e2];exact hab
structure Laid (m:Nat) (hs:Array Int) (pl od:Array Nat):Prop where
 ps:pl.size=hs.size
 os:od.size=hs.size
 ris:Ris pl
 bnd:∀i,i<pl.size->pl.getD i 0<=m
 lt:∀i,i<hs.size->od.getD i 0<hs.size
 inj:∀i j,i<hs.size->j<hs.size->od.getD i 0=od.getD j 0->i=j
 sur:∀k,k<hs.size->∃i,i<hs.size/\od.getD i 0=k
 reach:∀i,i<hs.size->∃n,sl m (hs.getD (od.getD i 0) 0) n=pl.getD i 0/\∀k,k<n->In pl (sl m (hs.getD (od.getD i 0) 0) k)
theorem oX_ {m:Nat} (hm:Msk m) (fg mv:Nat) (led plain:Bool) (hs:Array Int) (hl:hs.size<=m+1):
  ∃pl od,laid m fg mv led plain hs=some ({mask:=m,place:=pl,dummies:= #[],finger:=fg,led:=led,moves:=mv,plain:=plain},od)/\Laid m hs pl od:=by
 obtain⟨o,ss,e,l⟩:=lj_ hm hs hl;have ln:hs.toList.length=hs.size:=B1;refine⟨((bi_ m o).map (·.1)).toArray,((bi_ m o).map (·.2)).toArray, ?_, ?_⟩
 .unfold laid;rw [e];rfl
 have at_:∀i (h:i<(bi_ m o).length),((bi_ m o).map (·.1)).toArray.getD i 0=(bi_ m o)[i].1/\((bi_ m o).map (·.2)).toArray.getD i 0=(bi_ m o)[i].2/\o[(bi_ m o)[i].1]? =some (some (bi_ m o)[i].2):=fun i h=>by
  refine⟨by simp [Array.getD,h],by simp [Array.getD,h],(f7_ l.size _ _).mp ?_⟩;exact List.getElem_mem h
 have ris:Ris ((bi_ m o).map (·.1)).toArray:=fun i j hij hj=>by
  have hj':j<(bi_ m o).length:=by simpa using hj
  rw [(at_ i (by lia)).1,(at_ j hj').1];exact CO.mp (oU_ m o) i j (by lia) hj' hij
 have sur:∀k,k<hs.size->∃i,∃h:i<(bi_ m o).length,(bi_ m o)[i].2=k/\(bi_ m o)[i].1=ss k:=fun k hk=>by
  have:=(f7_ l.size (ss k) k).mpr (l.at_ k (by rw [ln];exact hk)).2;obtain⟨i,hi,e⟩:=BW.mp this;exact⟨i,hi,by rw [e],by rw [e]⟩
 have size:(bi_ m o).length=hs.size:=by
  have h1:=fj_ (bi_ m o).length hs.size (fun i=>((bi_ m o).map (·.2)).toArray.getD i 0) fun k hk=>by
   obtain⟨i,hi,e,_⟩:=sur k hk;exact⟨i,hi,by rw [(at_ i hi).2.1,e]⟩
  have h2:=fj_ hs.size (bi_ m o).length (fun k=>below ((bi_ m o).map (·.1)).toArray (ss k)) fun i hi=>by
   obtain⟨a1,a2,a3⟩:=at_ i hi;obtain⟨b1,b2⟩:=l.of_ _ _ a3;refine⟨(bi_ m o)[i].2,by lia, ?_⟩;rw [b2,<-a1];exact jo_ ris (by simpa using hi)
  lia
 have inOcc:∀j,Occ o j->In ((bi_ m o).map (·.1)).toArray j:=fun j ⟨k,hk⟩=>by
  obtain⟨i,hi,e⟩:=BW.mp ((f7_ l.size j k).mpr hk);exact⟨i,by simpa using hi,by rw [(at_ i hi).1,e]⟩
 refine⟨by simpa using size,by simpa using size,ris,fun i hi=> ?_,fun i hi=> ?_,fun i j hi hj e=> ?_,fun k hk=> ?_,fun i hi=> ?_⟩
 .have hi':i<(bi_ m o).length:=by simpa using hi
  obtain⟨a1,a2,a3⟩:=at_ i hi';rw [a1];have:=(Br.mp a3).1;have:=l.size;lia
 .obtain⟨a1,a2,a3⟩:=at_ i (by lia);rw [a2];have:=(l.of_ _ _ a3).1;lia
 .obtain⟨a1,a2,a3⟩:=at_ i (by lia);obtain⟨b1,b2,b3⟩:=at_ j (by lia);rw [a2,b2] at e;have e1:=(l.of_ _ _ a3).2;have e2:=(l.of_ _ _ b3).2;rw [e,e2] at e1;by_cases c:i<j
  .have:=ris i j c (by simp;lia);lia
  .by_cases c2:j<i
   .have:=ris j i c2 (by simp;lia);lia
   .lia
 .obtain⟨i,hi,e,_⟩:=sur k hk;exact⟨i,by lia,by rw [(at_ i hi).2.1,e]⟩
 .obtain⟨a1,a2,a3⟩:=at_ i (by lia);obtain⟨b1,b2⟩:=l.of_ _ _ a3;have hk:(bi_ m o)[i].2<hs.size:=by lia
  have eh:hs.toList[(bi_ m o)[i].2]? =some (hs.getD (bi_ m o)[i].2 0):=by simp [Array.getD,hk]
  obtain⟨n,e,q⟩:=l.reach _ _ eh;rw [a1,a2];exact⟨n,by rw [e,b2],fun k hk=>inOcc _ (q k hk)⟩
theorem nO_ {α β:Type}{f:α->Option β}{g:α->β}:∀(l:List α),(∀a∈l,f a=some (g a))->l.filterMap f=l.map g
 |[],_=>rfl
 |a::l,h=>by
  rw [List.filterMap_cons_some (h a (by simp)),AO,nO_ l fun b hb=>h b (by simp [hb])]
theorem pi_:sizeAbove 20=32:=by decide
theorem ph_:sizeAbove 76=128:=by decide
theorem Tb.again {t:SetTable}{es:Array (Int×Value)} (hm:(t.mask=7/\es.size=5)\/(t.mask=31/\es.size=19)):
  ∃pl od,t.relaid (es.map (·.1)) (grown es.size)=some ({mask:=sizeAbove (grown es.size)-1,place:=pl,dummies:= #[],finger:=t.finger,led:=t.led,moves:=t.movedTo (sizeAbove (grown es.size)-1),plain:=t.plain},od)/\
   Tb {mask:=sizeAbove (grown es.size)-1,place:=pl,dummies:= #[],finger:=t.finger,led:=t.led,moves:=t.movedTo (sizeAbove (grown es.size)-1),plain:=t.plain} (od.filterMap (es[·]?))/\
   (od.filterMap (es[·]?)).size=es.size/\(∀i,i<es.size->∃k,k<es.size/\(od.filterMap (es[·]?))[i]? =es[k]? /\k=od.getD i 0)/\
   (∀i j,i<es.size->j<es.size->od.getD i 0=od.getD j 0->i=j)/\(∀k,k<es.size->∃i,i<es.size/\od.getD i 0=k)/\
   es.size*5<(sizeAbove (grown es.size)-1)*3/\sizeAbove (grown es.size)<=sizeLine:=by
 have hM:Msk (sizeAbove (grown es.size)-1)/\es.size<=sizeAbove (grown es.size)-1+1/\es.size*5<(sizeAbove (grown es.size)-1)*3/\sizeAbove (grown es.size)<=sizeLine:=by
  rcases hm with⟨_,e⟩|⟨_,e⟩
  .rw [e,show grown 5=20 from rfl,pi_];exact⟨.inr (.inl rfl),by decide,by decide,by decide⟩
  .rw [e,show grown 19=76 from rfl,ph_];exact⟨.inr (.inr rfl),by decide,by decide,by decide⟩
 have sz:(es.map (·.1)).size=es.size:=Array.size_map;obtain⟨pl,od,e,L⟩:=oX_ hM.1 t.finger (t.movedTo (sizeAbove (grown es.size)-1)) t.led t.plain (es.map (·.1)) (by rw [sz];exact hM.2.1);have odlt:∀i,i<es.size->od.getD i 0<es.size:=fun i hi=>by have:=L.lt i (by rw [sz];exact hi);rw [sz] at this;exact this
 have ods:od.size=es.size:=by rw [L.os,sz]
 have fm:od.filterMap (es[·]?)=od.map fun k=>es.getD k (0, .none):=by
  apply Array.toList_inj.mp;rw [Array.toList_filterMap,Array.toList_map];refine nO_ _ fun k hk=> ?_;obtain⟨i,hi,ei⟩:=BW.mp hk;have hi':i<od.size:=by simpa using hi
  have:k<es.size:=by
   have:=odlt i (by lia);simp only [Array.getD,hi',dite_true] at this;simp only [Array.getElem_toList] at ei;rw [<-ei];exact this
  simp [Array.getD,this]
 have fs:(od.filterMap (es[·]?)).size=es.size:=by rw [fm,Array.size_map,ods]
 have fat:∀i,i<es.size->(od.filterMap (es[·]?))[i]? =es[od.getD i 0]? :=fun i hi=>by
  have h2:=odlt i hi;have hi':i<od.size:=by lia
  rw [fm,Array.getElem?_map];have e1:od[i]? =some (od.getD i 0):=by simp [Array.getD,hi']
  rw [e1];simp only [Option.map_some];generalize od.getD i 0=k at h2⊢;simp [Array.getD,h2]
 refine⟨pl,od,e,⟨hM.1,rfl,by rw [fs];show pl.size=_;rw [L.ps,sz],L.ris,L.bnd,fun i hi=> ?_⟩,fs,fun i hi=>⟨od.getD i 0,odlt i hi,fat i hi,rfl⟩,fun i j hi hj=>L.inj i j (by rw [sz];exact hi) (by rw [sz];exact hj),fun k hk=> ?_,hM.2.2⟩
 .rw [fs] at hi;obtain⟨n,e1,e2⟩:=L.reach i (by rw [sz];exact hi);have eh:(es.map (·.1)).getD (od.getD i 0) 0=hAt (od.filterMap (es[·]?)) i:=by
   unfold hAt;rw [fat i hi];have h2:=odlt i hi;generalize od.getD i 0=k at h2⊢;simp [Array.getD,h2]
  rw [eh] at e1 e2;exact⟨n,e1,e2⟩
 .obtain⟨i,hi,ei⟩:=L.sur k (by rw [sz];exact hk);exact⟨i,by rw [sz] at hi;exact hi,ei⟩
end L2
namespace L2
open PySem PySem.SetTable PySem.Spec PyProof.Rows
section
variable {prog:Program}{w:World}{A:Around}{E:Value->Shared->Prop}{s:Shared}
theorem i1_ {k:List Int}{vs:List Value} (h:ItemsAre (intKind prog w) k vs):∀v∈vs,∃n t,v= .int n t:=by
 induction h with
 |nil=>intro v hv;simp at hv
 | @cons k v' ks vs h1 _ ih=>
  intro v hv;rcases AI.mp hv with rfl|hv
  .cases v with
   |int n t=>exact⟨n,t,rfl⟩
   |_=>exact absurd h1 (by simp [intKind,Value.isInt])
  .exact ih v hv
theorem eG_ {k:List Int}{x:Addr}{Q:Bool->Shared->Prop} (hx:IsTupleKey (intKind prog w) s.heap k x) (h:Q false s):
  wpAny (model prog w) A (ofAClassStatement 8 (.ref x)) Q E s:=by
 have hT:=hx.typeIs;obtain⟨o,items,n,ho,hc,hd,hi⟩:=hx;unfold ofAClassStatement;refine A0 (DF hT ?_);show wpAny _ _ ((if("tuple"=="tuple")=true then pure true else isSubtype (.type "tuple") (.type "tuple"))>>=_) _ _ s;refine A0 (A2 ?_);simp only [B9,AF,Ah];refine A0 (Bd ho hd ?_);refine A0 ?_;show wpAny _ _ (forIn items _ _) _ _ s;rw [<-CZ];refine Bu _ (fun ci_ r s'=>r.1=none/\s'=s/\∀v∈ci_,∃n t,v=Value.int n t) _ ?_ ?_ _ _ ⟨rfl,rfl,i1_ hi⟩
 .rintro v ci_ r s' ⟨hr,rfl,hall⟩;obtain⟨n,t,rfl⟩:=hall v AU;refine A0 (D9 (show ofAClassStatement 7 (.int n t)=pure false from by unfold ofAClassStatement;rfl) (A2 ?_));simp only [AF,Ah];exact⟨trivial,trivial,fun u hu'=>hall u (AR _ hu')⟩
 .rintro⟨r1,r2⟩ s' ⟨hr,rfl,_⟩;simp only at hr;subst hr;exact A2 h
theorem mr_ {k:List Int}{x:Addr}{Q:Bool->Shared->Prop} (hx:IsTupleKey (intKind prog w) s.heap k x) (ys:List Value)
  (hy:∀y∈ys,∃b j,y= .ref b/\IsTupleKey (intKind prog w) s.heap j b) (h:Q false s):
  wpAny (model prog w) A (searchCouldBeSeen (.ref x) ys) Q E s:=by
 unfold searchCouldBeSeen;refine A0 ?_;refine Bu _ (fun ci_ r s'=>r.1=none/\s'=s/\∀v∈ci_,∃b j,v=Value.ref b/\IsTupleKey (intKind prog w) s.heap j b) _ ?_ ?_ _ _ ⟨rfl,rfl,hy⟩
 .rintro v ci_ r s' ⟨hr,rfl,hall⟩;obtain⟨b,j,rfl,hj⟩:=hall v AU;have hall':∀u∈ci_,∃b j,u=Value.ref b/\IsTupleKey (intKind prog w) s'.heap j b:=fun u hu'=>hall u (AR _ hu');dsimp only;split
  .exact A2 ⟨rfl,rfl,hall'⟩
  .refine A0 (wpAny_eqIsQuiet_tuple hx ?_);simp only [B9,AF,Ah];refine A0 (wpAny_eqIsQuiet_tuple hj ?_);simp only [B9,AF,Ah];refine A0 (eG_ hx ?_);simp only [AF,Ah];refine A0 (eG_ hj ?_);simp only [AF,Ah];exact A2 ⟨rfl,rfl,hall'⟩
 .rintro⟨r1,r2⟩ s' ⟨hr,rfl,_⟩;simp only at hr;subst hr;exact A2 h
structure Ent (prog:Program) (w:World) (h:Heap) (es:Array (Int×Value)):Prop where
 ent:∀i,i<es.size->∃k b,es[i]? =some (tupleKeyHash (intKind prog w) k, .ref b)/\IsTupleKey (intKind prog w) h k b
 dis:∀(i j:Nat) (k:List Int) (b c:Addr) (g g':Int),es[i]? =some (g,Value.ref b)->es[j]? =some (g',Value.ref c)->IsTupleKey (intKind prog w) h k b->IsTupleKey (intKind prog w) h k c->i=j
def pm_ (prog:Program) (w:World) (h:Heap) (es:Array (Int×Value)) (k:List Int):Prop:=∃(i:Nat) (b:Addr),es[i]? =some (tupleKeyHash (intKind prog w) k, .ref b)/\IsTupleKey (intKind prog w) h k b
theorem ku_ (a:Addr) (x:Value) (h:Int) (adding:Bool) (fuel:Nat) (stand:Option Probe):setSearchFrom a x h adding (fuel+1) stand=(do
  let (es,_,t)<-setState a
  if t.gaveWay then unsupported "set:on-a-table-that-gave-way"
  let some met:=t.probe (hAt es) h (stand.getD (t.probeStart h))|unsupported "internal:set-table-without-an-empty-slot"
  match met with
  | .empty j dummy=>
   match dummy with
   |none=>return .free j false
   |some d=>
    if adding&&t.slot d != .dummy then rule "set.search.the-dummy-was-taken";return<-setSearchFrom a x h adding fuel none
    return .free d true
  | .candidate j i next=>
   if !t.led then
    if<-searchCouldBeSeen x ((es.filter (·.1==h)).toList.map (·.2)) then unsupported "set:the-search-would-show-the-table"
   let some (_,y):=es[i]? |unsupported "internal:set-entry"
   let equal<-holding [y] (eqBool y x)
   let (es',_,t')<-setState a
   if adding&&equal then return .there none
   let some same:=t'.sameMemory t.moves t.mask|unsupported "set.changed-during-lookup:is-the-new-block-at-the-old-address"
   let still<-match(if same then t'.slot j else .empty) with
    | .live i'=>match es'[i']? with
     |some (_,y')=>do pure (if<-isSame y' y then some i' else none)
     |none=>pure none
    |_=>pure none
   match still with
   |none=>rule "set.search.anew";setSearchFrom a x h adding fuel none
   |some i'=>if equal then return .there (some i') else setSearchFrom a x h adding fuel (some next)):=rfl
theorem iY_ {h:Heap}{es:Array (Int×Value)} (e:Ent prog w h es) {i:Nat} (hi:i<es.size) {k:List Int}{b:Addr}{g:Int} (he:es[i]? =some (g, .ref b)) (hk:IsTupleKey (intKind prog w) h k b):
  g=tupleKeyHash (intKind prog w) k:=by
 obtain⟨k',b',e',hk'⟩:=e.ent i hi;rw [e'] at he;simp only [Au,BE,Bq] at he;obtain⟨rfl,rfl⟩:=he;rw [hk.inj hk']
theorem cU_ {α:Type}{xs:Array α}{i:Nat}{a:α} (h:xs[i]? =some a):i<xs.size:=by
 rcases Bl i xs.size with c|c
 .exact c
 .rw [BX c] at h;exact nomatch h
theorem cW_ {es:Array (Int×Value)}{t:SetTable} (b:Tb t es) (hs:es.size<=t.mask):t.fits es.size=true:=by
 have h1:t.fill<=t.mask:=by
  unfold SetTable.fill;rw [b.dum,b.size];exact hs
 unfold SetTable.fits;rw [b.size,BC h1];simp
theorem fh_ {a:Addr}{o:Obj}{es:Array (Int×Value)}{ep:Nat}{t:SetTable} (ho:s.heap.get? a=some o) (hd:o.data= .set es ep t) (b:Tb t es) (hs:es.size<=t.mask)
  (hu:A.units<cLine) (en:Ent prog w s.heap es) {k:List Int}{x:Addr} (hx:IsTupleKey (intKind prog w) s.heap k x) {Q:SetFound->Shared->Prop}
  (hT:pm_ prog w s.heap es k->Q (.there none) s)
  (hF:∀n,¬In t.place (sl t.mask (tupleKeyHash (intKind prog w) k) n)->(∀j,j<n->In t.place (sl t.mask (tupleKeyHash (intKind prog w) k) j))->¬pm_ prog w s.heap es k->
   Q (.free (sl t.mask (tupleKeyHash (intKind prog w) k) n) false) s):
  ∀(fuel n0:Nat) (stand:Option Probe),(∃N,n0<=N/\N<n0+fuel/\¬In t.place (sl t.mask (tupleKeyHash (intKind prog w) k) N))->
   (∀j,j<n0->∃i,i<t.place.size/\t.place.getD i 0=sl t.mask (tupleKeyHash (intKind prog w) k) j/\∀g c,es[i]? =some (g,Value.ref c)->¬IsTupleKey (intKind prog w) s.heap k c)->
   stand.getD (t.probeStart (tupleKeyHash (intKind prog w) k))=pAt t.mask (tupleKeyHash (intKind prog w) k) n0->
   wpAny (model prog w) A (setSearchFrom a (.ref x) (tupleKeyHash (intKind prog w) k) true fuel stand) Q E s
 |0,n0,_,⟨N,h1,h2,_⟩,_,_=>absurd h2 (by lia)
 |fuel+1,n0,stand,⟨N,h1,h2,h3⟩,hp,hst=>by
  have hf:t.fits es.size=true:=cW_ b hs;have hw:t.gaveWay=false:=by
   unfold SetTable.gaveWay;rcases b.mask with e|e|e<;>rw [e]<;>rfl
  rw [ku_];refine A0 (BB ho hd hf ?_);dsimp only;rw [hw,hst];simp only [AF,Ah];obtain⟨n,hn,hq,hr⟩:=b.probe hs (hAt es) (tupleKeyHash (intKind prog w) k) n0;have hp':∀j,j<n->∃i,i<t.place.size/\t.place.getD i 0=sl t.mask (tupleKeyHash (intKind prog w) k) j/\∀g c,es[i]? =some (g,Value.ref c)->¬IsTupleKey (intKind prog w) s.heap k c:=by
   intro j hj;rcases Bl j n0 with c|c
   .exact hp j c
   .obtain⟨i,hi,ei,eh⟩:=hq j c hj;refine⟨i,hi,ei,fun g c e hk=> ?_⟩;have:=iY_ en (by rw [<-b.size];exact hi) e hk;unfold hAt at eh;rw [e] at eh;simp [this] at eh
  rcases hr with⟨r1,r2⟩|⟨i,hi,ei,eh,r2⟩
  .rw [r2];refine A2 (hF n r1 (fun j hj=> ?_) fun⟨i,c,e,hk⟩=> ?_)
   .obtain⟨i,hi,ei,_⟩:=hp' j hj;exact⟨i,hi,ei⟩
   .have hil:=cU_ e;obtain⟨m,em,hm⟩:=b.reach i hil;have eha:hAt es i=tupleKeyHash (intKind prog w) k:=by unfold hAt;rw [e];rfl
    rw [eha] at em hm;have hmn:m<n:=by
     rcases Bl m n with c|c
     .exact c
     .exfalso;rcases Bl n m with d|d
      .exact r1 (hm n d)
      .have:m=n:=by lia
       subst this;exact r1 ⟨i,by rw [b.size];exact hil,em.symm⟩
    obtain⟨i',hi',ei',hno⟩:=hp' m hmn;have:i'=i:=by
     rcases Nat.lt_trichotomy i' i with c|c|c
     .have:=b.ris i' i c (by rw [b.size];exact hil);lia
     .exact c
     .have:=b.ris i i' c hi';lia
    subst this;exact hno _ _ e hk
  .rw [r2];dsimp only;have hil:i<es.size:=by rw [<-b.size];exact hi
   obtain⟨k',y,ey,hy⟩:=en.ent i hil;have hSeen:∀y∈(es.filter (fun e=>e.1==tupleKeyHash (intKind prog w) k)).toList.map (·.2),∃b j,y=Value.ref b/\IsTupleKey (intKind prog w) s.heap j b:=by
    intro y hy;obtain⟨e,he,rfl⟩:=Al.mp hy;have he':e∈es:=by
     have:=Array.mem_toList_iff.mp he;exact(Array.mem_filter.mp this).1
    obtain⟨i,hi,ei⟩:=Array.mem_iff_getElem.mp he';obtain⟨k',y,ey,hy'⟩:=en.ent i hi;rw [Aa hi,ei] at ey;simp only [Au] at ey;subst ey;exact⟨y,k',rfl,hy'⟩
   have goal2:wpAny (model prog w) A (do
     let some (_,y):=es[i]? |unsupported "internal:set-entry"
     let equal<-holding [y] (eqBool y (.ref x))
     let (es',_,t')<-setState a
     if true&&equal then return SetFound.there none
     let some same:=t'.sameMemory t.moves t.mask|unsupported "set.changed-during-lookup:is-the-new-block-at-the-old-address"
     let still<-match(if same then t'.slot (sl t.mask (tupleKeyHash (intKind prog w) k) n) else .empty) with
      | .live i'=>match es'[i']? with
       |some (_,y')=>do pure (if<-isSame y' y then some i' else none)
       |none=>pure none
      |_=>pure none
     match still with
     |none=>rule "set.search.anew";setSearchFrom a (.ref x) (tupleKeyHash (intKind prog w) k) true fuel none
     |some i'=>if equal then return SetFound.there (some i') else setSearchFrom a (.ref x) (tupleKeyHash (intKind prog w) k) true fuel (some (pAt t.mask (tupleKeyHash (intKind prog w) k) (n+1)))) Q E s:=by
    rw [ey];dsimp only;refine A0 (An (wpAny_eqBool_tuple hu hy hx ?_));refine A0 (BB ho hd hf ?_);dsimp only;by_cases hkk:k'=k
    .subst hkk;rw [BC rfl];simp only [Bool.true_and,Bz];exact A2 (hT ⟨i,y,ey,hy⟩)
    .rw [Ak hkk];simp only [DD,AF,Ah];have hsm:t.sameMemory t.moves t.mask=some true:=by unfold SetTable.sameMemory;simp
     rw [hsm];dsimp only;rw [AA rfl,<-ei,gC_ b.ris hi];dsimp only;rw [ey];dsimp only;refine A0 ?_;refine wpAny_isSame_ref_self ?_;simp only [Bz];refine fh_ ho hd b hs hu en hx hT hF fuel (n+1) _ ⟨N, ?_,by lia,h3⟩ ?_ rfl
     .have:n≠N:=fun e=>h3 (by rw [<-e];exact⟨i,hi,ei⟩);have:¬N<n:=fun c=>by
       obtain⟨i',hi',ei',_⟩:=hp' N c;exact h3 ⟨i',hi',ei'⟩
      lia
     .intro j hj;rcases Bl j n with c|c
      .exact hp' j c
      .have:j=n:=by lia
       subst this;refine⟨i,hi,ei,fun g c e hk=>hkk ?_⟩;rw [ey] at e;simp only [Au,BE,Bq] at e;obtain⟨_,rfl⟩:=e;exact hy.inj hk
   cases hl:t.led with
   |true=>simpa only [B9,AF,Ah] using goal2
   |false=>
    simp only [Cg,Bz];refine A0 (mr_ hx _ hSeen ?_);simp only [AF,Ah];exact goal2
def l9_ (h:Heap) (S:Addr) (led:Bool) (es:Array (Int×Value)):Prop:=
 ∃ep t,h.get? S=some {cls:= .type "set",dict:=none,data:= .set es ep t}/\Tb t es/\t.led=led/\t.plain=true/\es.size*5<t.mask*3
theorem hw_ {h:Heap}{a:Addr}{es:Array (Int×Value)}{ep:Nat}{t:SetTable} (ho:h.get? a=some {cls:= .type "set",dict:=none,data:= .set es ep t}) (es':Array (Int×Value)) (t':SetTable):
  (h.update a (Obj.putSet es' t')).get? a=some {cls:= .type "set",dict:=none,data:= .set es' (ep+1) t'}:=by
 have:=C3 (Obj.putSet es' t') ho (by rw [putSet_of es' t' rfl];rfl);rw [putSet_of es' t' rfl] at this;exact this
theorem nG_ {h h':Heap}{S:Addr}{o o':Obj}{es es':Array (Int×Value)}{ep ep':Nat}{t t':SetTable} (q:Heap.SameBut S h h') (e:h.get? S=some o) (hd:o.data= .set es ep t)
  (e':h'.get? S=some o') (hd':o'.data= .set es' ep' t') (k:List Int) (x:Addr):
  IsTupleKey (intKind prog w) h k x↔IsTupleKey (intKind prog w) h' k x:=by
 constructor
 .rintro⟨o,items,n,ho,hc,hdd,hi⟩;refine⟨o,items,n,(q.2 x fun z=> ?_).trans ho,hc,hdd,hi⟩;subst z;rw [ho,Au] at e;subst e;rw [hd] at hdd;exact nomatch hdd
 .rintro⟨o,items,n,ho,hc,hdd,hi⟩;refine⟨o,items,n,(q.2 x fun z=> ?_).symm.trans ho,hc,hdd,hi⟩;subst z;rw [ho,Au] at e';subst e';rw [hd'] at hdd;exact nomatch hdd
theorem il_ {k:List Int}{x:Addr}{Q:Bool->Shared->Prop} (hx:IsTupleKey (intKind prog w) s.heap k x) (h:Q true s):
  wpAny (model prog w) A (hashByValue 8 (.ref x)) Q E s:=by
 have hT:=hx.typeIs;obtain⟨o,items,n,ho,hc,hd,hi⟩:=hx;unfold hashByValue;refine A0 (CI hT Cv.lookup ?_);dsimp only;refine A0 (Bd ho hd ?_);refine A0 ?_;show wpAny _ _ (forIn items _ _) _ _ s;rw [<-CZ];refine Bu _ (fun ci_ r s'=>r.1=none/\s'=s/\∀v∈ci_,∃n t,v=Value.int n t) _ ?_ ?_ _ _ ⟨rfl,rfl,i1_ hi⟩
 .rintro v ci_ r s' ⟨hr,rfl,hall⟩;obtain⟨n,t,rfl⟩:=hall v AU;refine A0 (D9 (show hashByValue 7 (.int n t)=pure true from by unfold hashByValue;rfl) (A2 ?_));simp only [B9,AF,Ah];exact⟨trivial,trivial,fun u hu'=>hall u (AR _ hu')⟩
 .rintro⟨r1,r2⟩ s' ⟨hr,rfl,_⟩;simp only at hr;subst hr;exact A2 h
theorem Ent.perm {h h':Heap}{es es':Array (Int×Value)} (en:Ent prog w h es) (hk:∀k x,IsTupleKey (intKind prog w) h k x↔IsTupleKey (intKind prog w) h' k x) (f:Nat->Nat)
  (hf:∀i,i<es'.size->f i<es.size/\es'[i]? =es[f i]?) (hj:∀i j,i<es'.size->j<es'.size->f i=f j->i=j):Ent prog w h' es':=by
 refine⟨fun i hi=> ?_,fun i j k b c g g' e1 e2 k1 k2=> ?_⟩
 .obtain⟨k,b,e,q⟩:=en.ent (f i) (hf i hi).1;exact⟨k,b,by rw [(hf i hi).2];exact e,(hk _ _).mp q⟩
 .have l1:=cU_ e1;have l2:=cU_ e2;rw [(hf i l1).2] at e1;rw [(hf j l2).2] at e2;exact hj i j l1 l2 (en.dis _ _ k b c g g' e1 e2 ((hk _ _).mpr k1) ((hk _ _).mpr k2))
theorem Ent.insert {h h':Heap}{es:Array (Int×Value)} (en:Ent prog w h es) (hk:∀k x,IsTupleKey (intKind prog w) h k x↔IsTupleKey (intKind prog w) h' k x) {p:Nat} (hp:p<=es.size) {k:List Int}{x:Addr}
  (hx:IsTupleKey (intKind prog w) h k x) (hno:¬pm_ prog w h es k):Ent prog w h' (insertAt es p (tupleKeyHash (intKind prog w) k, .ref x)):=by
 have old:∀(i:Nat) (k':List Int) (b:Addr) (g:Int),es[i]? =some (g,Value.ref b)->IsTupleKey (intKind prog w) h k' b->k'≠k:=by
  rintro i k' b g e q rfl;exact hno ⟨i,b,by rw [e,iY_ en (cU_ e) e q],q⟩
 refine⟨fun i hi=> ?_,fun i j k' b c g g' e1 e2 k1 k2=> ?_⟩
 .rw [bk_ hp] at hi;rw [d2_ hp];by_cases c1:i<p
  .rw [AA c1];obtain⟨k',b,e,q⟩:=en.ent i (by lia);exact⟨k',b,e,(hk _ _).mp q⟩
  .rw [A9 c1];by_cases c2:i=p
   .rw [AA c2];exact⟨k,x,rfl,(hk _ _).mp hx⟩
   .rw [A9 c2];obtain⟨k',b,e,q⟩:=en.ent (i-1) (by lia);exact⟨k',b,e,(hk _ _).mp q⟩
 .rw [d2_ hp] at e1 e2;have k1':=(hk _ _).mpr k1;have k2':=(hk _ _).mpr k2;have new:∀(b:Addr) (g:Int),some (tupleKeyHash (intKind prog w) k,Value.ref x)=some (g,Value.ref b)->IsTupleKey (intKind prog w) h k' b->k'=k:=by
   intro b g e q;simp only [Au,BE,Bq] at e;obtain⟨_,rfl⟩:=e;exact q.inj hx
  by_cases a1:i<p
  .rw [AA a1] at e1;by_cases b1:j<p
   .rw [AA b1] at e2;exact en.dis _ _ _ _ _ _ _ e1 e2 k1' k2'
   .rw [A9 b1] at e2;by_cases b2:j=p
    .rw [AA b2] at e2;exact absurd (new _ _ e2 k2') (old _ _ _ _ e1 k1')
    .rw [A9 b2] at e2;have:=en.dis _ _ _ _ _ _ _ e1 e2 k1' k2';lia
  .rw [A9 a1] at e1;by_cases a2:i=p
   .rw [AA a2] at e1;by_cases b1:j<p
    .rw [AA b1] at e2;exact absurd (new _ _ e1 k1') (old _ _ _ _ e2 k2')
    .rw [A9 b1] at e2;by_cases b2:j=p
     .lia
     .rw [A9 b2] at e2;exact absurd (new _ _ e1 k1') (old _ _ _ _ e2 k2')
   .rw [A9 a2] at e1;by_cases b1:j<p
    .rw [AA b1] at e2;have:=en.dis _ _ _ _ _ _ _ e1 e2 k1' k2';lia
    .rw [A9 b1] at e2;by_cases b2:j=p
     .rw [AA b2] at e2;exact absurd (new _ _ e2 k2') (old _ _ _ _ e1 k1')
     .rw [A9 b2] at e2;have:=en.dis _ _ _ _ _ _ _ e1 e2 k1' k2';lia
theorem ls_ {es:Array (Int×Value)}{p:Nat} (hp:p<=es.size) (x v:Int×Value):(∃i:Nat,(insertAt es p x)[i]? =some v)↔(∃i:Nat,es[i]? =some v)\/v=x:=by
 constructor
 .rintro⟨i,e⟩;rw [d2_ hp] at e;split at e
  .exact .inl ⟨_,e⟩
  .split at e
   .rw [Au] at e;exact .inr e.symm
   .exact .inl ⟨_,e⟩
 .rintro(⟨i,e⟩|rfl)
  .by_cases c:i<p
   .exact⟨i,by rw [d2_ hp,AA c];exact e⟩
   .exact⟨i+1,by rw [d2_ hp,A9 (by lia),A9 (by lia)];exact e⟩
  .exact⟨p,by rw [d2_ hp,A9 (by lia),AA rfl]⟩
theorem mu_ (a:Addr) (wanted:Nat):setRelay a wanted=(do
  let (es,_,t)<-setState a
  if SetTable.sizeAbove wanted>sizeLine then unsupported "set:memory"
  let (es,t)<-(do
   let some (t,order):=t.relaid (es.map (·.1)) wanted|unsupported "internal:set-table-without-room"
   let es':=order.filterMap (es[·]?)
   if es'.size !=es.size then unsupported "internal:set-table-lost-an-element"
   pure (es',t):Sem (Array (Int×Value)×SetTable))
  storeSet a es t):=rfl
theorem pg_ {S:Addr}{led:Bool}{es:Array (Int×Value)} (hS:l9_ s.heap S led es) (en:Ent prog w s.heap es) {k:List Int}{x:Addr} (hx:IsTupleKey (intKind prog w) s.heap k x)
  (hu:A.units<cLine) (h64:es.size<64) {Q:Bool->Shared->Prop}
  (h:∀b h' es',Heap.SameBut S s.heap h'->l9_ h' S led es'->Ent prog w h' es'->
   (pm_ prog w s.heap es k/\es'=es\/¬pm_ prog w s.heap es k/\es'.size=es.size+1/\∀v,(∃i:Nat,es'[i]? =some v)↔(∃i:Nat,es[i]? =some v)\/v=(tupleKeyHash (intKind prog w) k, .ref x))->Q b {s with heap:=h'}):
  wpAny (model prog w) A (setAddHashed S (.ref x) (tupleKeyHash (intKind prog w) k)) Q E s:=by
 have hS0:=hS;obtain⟨ep,t,ho,b,hl,hp,hr⟩:=hS;have hs:es.size<=t.mask:=by lia
 have hf:=cW_ b hs;unfold setAddHashed setAddHashedIn;refine An (A0 (BB ho rfl hf ?_));dsimp only;have hsc:byScan (.ref x) es=false:=by unfold byScan;simp [Value.scannable]
 rw [hsc];simp only [AF,Ah];unfold setSearch;obtain⟨e,he,hn⟩:=b.free hs;obtain⟨n1,h1,h2,h3⟩:=sr_ b.mask (tupleKeyHash (intKind prog w) k) 0 he;have ht:10*turns t.mask<100000:=by
  unfold turns;rcases b.mask with e|e|e<;>rw [e]<;>decide
 refine A0 (fh_ ho rfl b hs hu en hx (fun hk=> ?_) (fun n ha hb hno=> ?_) 100000 0 none ⟨n1,h1,by lia,by rw [h3];exact hn⟩ (fun j hj=>absurd hj (by lia)) rfl)
 .exact A2 (h false s.heap es (Heap.SameBut.refl _ _) hS0 en (.inl ⟨hk,rfl⟩))
 .dsimp only;refine A0 (BB ho rfl hf ?_);dsimp only;have T1:=b.add (tupleKeyHash (intKind prog w) k) (.ref x) n ha (pZ_ _ _ _) hb;have hpl:below t.place (sl t.mask (tupleKeyHash (intKind prog w) k) n)<=es.size:=by rw [<-b.size];exact(dx_ b.ris _).1
  have put:=ny_ t b.dum (sl t.mask (tupleKeyHash (intKind prog w) k) n);rw [put] at T1⊢;dsimp only at T1⊢;rw [AA hp];refine A0 (il_ hx ?_);simp only [Bz];generalize hpp:below t.place (sl t.mask (tupleKeyHash (intKind prog w) k) n)=p at T1 hpl⊢;generalize htt:({t with place:=insertAt t.place p (sl t.mask (tupleKeyHash (intKind prog w) k) n)}:SetTable)=t1 at T1⊢;have tm:t1.mask=t.mask:=by rw [<-htt]
  have tl:t1.led=led:=by rw [<-htt];exact hl
  have tp:t1.plain=true:=by rw [<-htt];exact hp
  have z1:(insertAt es p (tupleKeyHash (intKind prog w) k,Value.ref x)).size=es.size+1:=bk_ hpl _;have hsl:sizeLine>=4096:=by rw [As];decide
  refine A0 (wpAny_storeSet_of ho rfl ?_ (by rw [z1];lia));have ho1:=(hw_ ho (insertAt es p (tupleKeyHash (intKind prog w) k,Value.ref x)) t1);have sb1:=B0 s.heap S (Obj.putSet (insertAt es p (tupleKeyHash (intKind prog w) k,Value.ref x)) t1);generalize s.heap.update S (Obj.putSet (insertAt es p (tupleKeyHash (intKind prog w) k,Value.ref x)) t1)=h1 at ho1 sb1⊢;have s1:t1.place.size=es.size+1:=by rw [T1.size,z1]
  have fl:t1.fill=es.size+1:=by unfold SetTable.fill;rw [T1.dum,s1];rfl
  have hk1:∀k x,IsTupleKey (intKind prog w) s.heap k x↔IsTupleKey (intKind prog w) h1 k x:=fun k x=>nG_ sb1 ho rfl ho1 rfl k x;have en1:=en.insert hk1 hpl hx hno;by_cases full:t1.tooFull=true
  .rw [full];simp only [Cg,Bool.and_self,Bz];have fe:(es.size+1)*5>=t.mask*3:=by
    unfold SetTable.tooFull at full;rw [fl,tm] at full;simpa using full
   have hm:(t1.mask=7/\(insertAt es p (tupleKeyHash (intKind prog w) k,Value.ref x)).size=5)\/(t1.mask=31/\(insertAt es p (tupleKeyHash (intKind prog w) k,Value.ref x)).size=19):=by
    rw [z1,tm];rcases b.mask with e|e|e<;>lia
   obtain⟨pl,od,r1,r2,r3,r4,r5,r6,r7,r8⟩:=Tb.again hm;rw [<-z1,mu_];have hf1:t1.fits (insertAt es p (tupleKeyHash (intKind prog w) k,Value.ref x)).size=true:=cW_ T1 (by rcases hm with⟨e1,e2⟩|⟨e1,e2⟩<;>lia)
   refine A0 ?_;refine A0 (BB (s:={s with heap:=h1}) ho1 rfl hf1 ?_);dsimp only;rw [A9 (by lia)];rw [r1];dsimp only;rw [show((od.filterMap ((insertAt es p (tupleKeyHash (intKind prog w) k,Value.ref x))[·]?)).size !=(insertAt es p (tupleKeyHash (intKind prog w) k,Value.ref x)).size)=false from by rw [r3];simp];simp only [AF,Ah];refine A0 (A2 ?_);refine wpAny_storeSet_of (s:={s with heap:=h1}) ho1 rfl ?_ (by rw [r3,z1];lia);have ho2:=(hw_ ho1 (od.filterMap ((insertAt es p (tupleKeyHash (intKind prog w) k,Value.ref x))[·]?)) {mask:=sizeAbove (grown (insertAt es p (tupleKeyHash (intKind prog w) k,Value.ref x)).size)-1,place:=pl,dummies:= #[],finger:=t1.finger,led:=t1.led,moves:=t1.movedTo (sizeAbove (grown (insertAt es p (tupleKeyHash (intKind prog w) k,Value.ref x)).size)-1),plain:=t1.plain});have sb2:=B0 h1 S (Obj.putSet (od.filterMap ((insertAt es p (tupleKeyHash (intKind prog w) k,Value.ref x))[·]?)) {mask:=sizeAbove (grown (insertAt es p (tupleKeyHash (intKind prog w) k,Value.ref x)).size)-1,place:=pl,dummies:= #[],finger:=t1.finger,led:=t1.led,moves:=t1.movedTo (sizeAbove (grown (insertAt es p (tupleKeyHash (intKind prog w) k,Value.ref x)).size)-1),plain:=t1.plain});dsimp only at ho2 sb2⊢;generalize h1.update S _=h2 at ho2 sb2⊢;have hk2:∀k x,IsTupleKey (intKind prog w) h1 k x↔IsTupleKey (intKind prog w) h2 k x:=fun k x=>nG_ sb2 ho1 rfl ho2 rfl k x;refine A2 (h true h2 _ (sb1.trans sb2) ⟨_,_,ho2,r2,tl,tp,by rw [r3];exact r7⟩ (en1.perm hk2 (fun i=>od.getD i 0) (fun i hi=> ?_) fun i j hi hj e=>r5 i j (by rw [<-r3];exact hi) (by rw [<-r3];exact hj) e) (.inr ⟨hno,by rw [r3,z1],fun v=> ?_⟩))
   .rw [r3] at hi;obtain⟨q,q1,q2,q3⟩:=r4 i hi;rw [<-q3];exact⟨q1,q2⟩
   .rw [<-ls_ hpl];constructor
    .rintro⟨i,e⟩;obtain⟨q,q1,q2,q3⟩:=r4 i (by rw [<-r3];exact cU_ e);exact⟨q,by rw [<-q2];exact e⟩
    .rintro⟨i,e⟩;obtain⟨i',hi',e'⟩:=r6 i (cU_ e);obtain⟨q,q1,q2,q3⟩:=r4 i' hi';exact⟨i',by rw [q2,q3,e'];exact e⟩
  .rw [show t1.tooFull=false from by simpa using full];simp only [Cg,DD,AF,Ah];have fe:(es.size+1)*5<t1.mask*3:=by
    unfold SetTable.tooFull at full;rw [fl] at full;simpa using full
   exact A2 (h true h1 _ sb1 ⟨_,_,ho1,T1,tl,tp,by rw [z1];exact fe⟩ en1 (.inr ⟨hno,z1,fun v=>ls_ hpl _ _⟩))
end
end L2
namespace L2
open PySem PySem.SetTable PySem.Spec PyProof.Rows
section
variable {prog:Program}{w:World}{A:Around}{E:Value->Shared->Prop}{s:Shared}
theorem Ent.mv {h h':Heap}{es:Array (Int×Value)} (en:Ent prog w h es) (hk:∀(i:Nat) (k:List Int) (g:Int) (x:Addr),es[i]? =some (g,Value.ref x)->IsTupleKey (intKind prog w) h k x->IsTupleKey (intKind prog w) h' k x):Ent prog w h' es:=by
 refine⟨fun i hi=> ?_,fun i j k b c g g' e1 e2 k1 k2=> ?_⟩
 .obtain⟨k,b,e,q⟩:=en.ent i hi;exact⟨k,b,e,hk i k _ b e q⟩
 .obtain⟨k',b',e1',q1⟩:=en.ent i (cU_ e1);obtain⟨k'',b'',e2',q2⟩:=en.ent j (cU_ e2);rw [e1] at e1';rw [e2] at e2';simp only [Au,BE,Bq] at e1' e2';obtain⟨rfl,rfl⟩:=e1';obtain⟨rfl,rfl⟩:=e2';have:=k1.inj (hk i k' _ b e1 q1);subst this;have:=k2.inj (hk j k'' _ c e2 q2);subst this;exact en.dis i j _ _ _ _ _ e1 e2 q1 q2
structure Made (prog:Program) (w:World) (kk:Nat->List Int) (ad:Nat->Addr) (i:Nat) (es:Array (Int×Value)):Prop where
 size:es.size<=i
 from_:∀(p:Nat) (v:Int×Value),es[p]? =some v->∃j,j<i/\v=(tupleKeyHash (intKind prog w) (kk j),Value.ref (ad j))
 all:∀j,j<i->∃(p j':Nat),j'<i/\kk j'=kk j/\es[p]? =some (tupleKeyHash (intKind prog w) (kk j'),Value.ref (ad j'))
theorem Made.step {kk:Nat->List Int}{ad:Nat->Addr}{i:Nat}{es es':Array (Int×Value)}{h:Heap} (m:Made prog w kk ad i es) (en:Ent prog w h es) (hkk:∀j,j<=i->IsTupleKey (intKind prog w) h (kk j) (ad j))
  (c:pm_ prog w h es (kk i)/\es'=es\/¬pm_ prog w h es (kk i)/\es'.size=es.size+1/\∀v,(∃p:Nat,es'[p]? =some v)↔(∃p:Nat,es[p]? =some v)\/v=(tupleKeyHash (intKind prog w) (kk i), .ref (ad i))):
  Made prog w kk ad (i+1) es':=by
 rcases c with⟨⟨p,b,e,q⟩,rfl⟩|⟨_,z,mem⟩
 .refine⟨Nat.le_succ_of_le m.size,fun p v e=> ?_,fun j hj=> ?_⟩
  .obtain⟨j,hj,ev⟩:=m.from_ p v e;exact⟨j,by lia,ev⟩
  .by_cases c:j<i
   .obtain⟨p,j',hj',ek,ev⟩:=m.all j c;exact⟨p,j',by lia,ek,ev⟩
   .have:j=i:=by lia
    subst this;obtain⟨j',hj',ev⟩:=m.from_ p _ e;simp only [BE,Bq] at ev;obtain⟨_,rfl⟩:=ev;have:=q.inj (hkk j' (by lia));exact⟨p,j',by lia,this.symm,by rw [e,this]⟩
 .refine⟨by rw [z];have:=m.size;lia,fun p v e=> ?_,fun j hj=> ?_⟩
  .rcases(mem v).mp ⟨p,e⟩ with⟨p',e'⟩|e'
   .obtain⟨j,hj,ev⟩:=m.from_ p' v e';exact⟨j,by lia,ev⟩
   .exact⟨i,by lia,e'⟩
  .by_cases c:j<i
   .obtain⟨p,j',hj',ek,ev⟩:=m.all j c;obtain⟨p',e'⟩:=(mem _).mpr (.inl ⟨p,ev⟩);exact⟨p',j',by lia,ek,e'⟩
   .have:j=i:=by lia
    subst this;obtain⟨p',e'⟩:=(mem _).mpr (.inr rfl);exact⟨p',j,by lia,rfl,e'⟩
theorem l9_.mv {h h':Heap}{S:Addr}{led:Bool}{es:Array (Int×Value)} (a:l9_ h S led es) (e:∀o,h.get? S=some o->h'.get? S=some o):l9_ h' S led es:=by
 obtain⟨ep,t,ho,r⟩:=a;exact⟨ep,t,e _ ho,r⟩
theorem g6_ {h h':Heap}{k:List Int}{x:Addr} (q:IsTupleKey (intKind prog w) h k x) (e:∀o,h.get? x=some o->h'.get? x=some o):IsTupleKey (intKind prog w) h' k x:=by
 obtain⟨o,items,n,ho,r⟩:=q;exact⟨o,items,n,e _ ho,r⟩
theorem mh_ {R:Result->Shared->Prop}{I:Addr}{fp wr:List Addr}{G:Array GenState->Array GenState->Prop}{n:Nat}{P:Nat->Value->Prop}{St:Nat->Shared->Prop}
  (Wq:WalksS prog w A.in1 I fp wr G n P St) (S:Addr) (hSf:S∉fp) (hu:A.in1.units<cLine) (led:Bool)
  (kk:Nat->List Int) (ad:Nat->Addr) (hval:∀i v,P i v->v= .ref (ad i)) (hwr:∀i,i<n->ad i∉wr) (hb:n<64):
  ∀(k i:Nat) (s:Shared) (es:Array (Int×Value)),n-i=k->i<=n->St i s->l9_ s.heap S led es->Ent prog w s.heap es->Made prog w kk ad i es->(∀j,j<n->IsTupleKey (intKind prog w) s.heap (kk j) (ad j))->
   (∀s' es',Moved (S::wr) G s s'->l9_ s'.heap S led es'->Ent prog w s'.heap es'->Made prog w kk ad n es'->R (.ok (.ret .none)) s')->
   codeAny (model prog w) A (.builtin "set.update.loop" ⟨[.ref S, .ref I],[]⟩) R s:=by
 have hSw:S∉wr:=fun h=>hSf (Wq.sub _ h);have hsub:∀b∈wr,b∈S::wr:=fun b hb=>AR _ hb;intro k;induction k with
 |zero=>
  intro i s es hk hi hst hS en mk hkk hR;have hin:i=n:=by lia
  subst hin;refine Bp F.entry_set_update_loop ?_;rw [Bk F.plain_set_update_loop _];show wpAny _ A.in1 (pyNext (.ref I)>>=_) _ _ s;refine A0 (Wq.done s _ _ hst fun s' hm=> ?_);show wpAny _ A.in1 (ret Value.none) _ _ s';refine A2 (hR s' es (hm.mono hsub) (hS.mv fun o e=>hm.heap S o hSw e) (en.mv fun p k g x e q=>g6_ q fun o e'=> ?_) mk);obtain⟨j,hj,ev⟩:=mk.from_ p _ e;simp only [BE,Bq] at ev;obtain⟨_,rfl⟩:=ev;exact hm.heap _ o (hwr j hj) e'
 |succ k ih=>
  intro i s es hk hi hst hS en mk hkk hR;have hlt:i<n:=by lia
  refine Bp F.entry_set_update_loop ?_;rw [Bk F.plain_set_update_loop _];show wpAny _ A.in1 (pyNext (.ref I)>>=_) _ _ s;refine A0 (Wq.item i s _ _ hlt hst fun v s' hP hst' hm=> ?_);obtain rfl:=hval i v hP;have hS':l9_ s'.heap S led es:=hS.mv fun o e=>hm.heap S o hSw e;have hkk':∀j,j<n->IsTupleKey (intKind prog w) s'.heap (kk j) (ad j):=fun j hj=>g6_ (hkk j hj) fun o e=>hm.heap _ o (hwr j hj) e;have en':Ent prog w s'.heap es:=en.mv fun p k g x e q=>g6_ q fun o e'=>by
   obtain⟨j,hj,ev⟩:=mk.from_ p _ e;simp only [BE,Bq] at ev;obtain⟨_,rfl⟩:=ev;exact hm.heap _ o (hwr j (by lia)) e'
  show wpAny _ A.in1 (holding [Value.ref (ad i)] (setAdd S (.ref (ad i)))>>=_) _ _ s';refine A0 (An ?_);unfold setAdd;refine An ?_;refine A0 (wpAny_pyHash_tuple hu (hkk' i hlt) ?_);refine pg_ (s:={s' with toks:=s'.toks+((kk i).length+1)}) hS' en' (hkk' i hlt) hu (by have:=mk.size;lia) fun b h' es' hsb hS2 en2 c=> ?_;have hkS:∀j,j<n->ad j≠S:=by
   intro j hj e;obtain⟨o,items,m,ho,_,hd,_⟩:=hkk' j hj;obtain⟨ep,t,ho',_⟩:=hS';rw [e,ho',Au] at ho;subst ho;exact nomatch hd
  refine A2 ⟨D8 F.plain_set_update_loop _,ih (i+1) _ es' (by lia) hlt (Wq.frame _ s' _ _ hst' (Nat.le_add_right _ _) fun b hb o e=> ?_) hS2 en2 (mk.step en' (fun j hj=>hkk' j (by lia)) c) (fun j hj=>g6_ (hkk' j hj) fun o e=> ?_) fun s'' es'' hm'' hS'' en'' mk''=> ?_⟩
  .rw [hsb.2 b (fun h:b=S=>hSf (by rw [<-h];exact hb))];exact e
  .show h'.get? _=_;rw [hsb.2 _ (hkS j hj)];exact e
  .refine hR s'' es'' (Moved.trans Wq.gtrans ((hm.mono hsub).then_heap (Nat.le_add_right _ _) fun b o hb e=> ?_) hm'') hS'' en'' mk'';rw [hsb.2 b (fun h:b=S=>hb (by rw [h];exact AU))];exact e
theorem oP_ (a:Value) {Q₁:Value->Shared->Prop}
  (h:Q₁ (.ref s.heap.objs.size) {s with heap:=s.heap.push {cls:= .type "set",dict:=none,data:= .set #[] 0 (.fresh 0 0 (!w.params.followText "set-order"))}}):
  codeAny (model prog w) A (.call (.builtin "set.__new__") ⟨[.type "set",a],[]⟩) (wants Q₁ E) s:=by
 refine codeAny_of_tree ?_;show wpAny _ A.in1 (do checkBuiltinCall "set.__new__" ⟨[.type "set",a],[]⟩;again (.builtin "set.__new__" ⟨[.type "set",a],[]⟩)) _ _ s;refine A0 (D9 (F.newCall_set_1 a) (A2 ⟨D8 F.plain_set_new _,Bp F.entry_set_new ?_⟩));rw [Bk F.plain_set_new _];unfold Builtin.«set.__new__» Builtin.Frozenset.newClass;have hsub:=sub_set_self;obtain⟨hp,g,d,tk,os⟩:=s;dsimp only
 wp_walk
 refine D2 (A2 ?_);dsimp only;simp only [newObj];refine A0 (wpAny_alloc (A2 ?_));exact A2 h
theorem m3_ (led:Bool):Tb (.fresh 0 0 led) #[]:=
 ⟨.inl rfl,rfl,rfl,fun i j _ h=>absurd h (by show¬j<0;lia),fun i h=>absurd h (by show¬i<0;lia),fun i h=>absurd h (by show¬i<0;lia)⟩
set_option maxHeartbeats 3200000 in
theorem hm_ {l:Addr}{items:Array Value}{kk:Nat->List Int}{ad:Nat->Addr}{Q:Value->Shared->Prop}
  (hh:A.handled=none) (hu:A.units+8<cLine) (hl:s.heap.IsList l items) (hn:items.size<64)
  (hk:∀i,i<items.size->items[i]? =some (.ref (ad i))/\IsTupleKey (intKind prog w) s.heap (kk i) (ad i))
  (h:∀(h':Heap) (tk:Nat) (es:Array (Int×Value)),l9_ h' s.heap.objs.size (!w.params.followText "set-order") es->Ent prog w h' es->Made prog w kk ad items.size es->
   (∀b o,b<s.heap.objs.size->s.heap.get? b=some o->h'.get? b=some o)->Q (.ref s.heap.objs.size) {s with heap:=h',toks:=tk}):
  wpAny (model prog w) A (call (.type "set") [.ref l]) Q E s:=by
 obtain⟨c,tl,hmro⟩:=CY.mro;have hmade:=CY.made;have hsub:=CY.sub;refine wpAny_call (codeAny_of_tree ?_);show wpAny _ _ (callAny (.type "set") _) _ _ _;refine A2 ⟨Code.quiet_builtin _ (by ac_nf),Bp F.entry_type_call ?_⟩;rw [Around.under_plain (weight_type_call_type "set" [.ref l] []) rfl];have h1:=CY.notType;have h2:=CY.canCreate;have hct:=F.typeCall_set_1 (.ref l)
 repeat (any_goals (first|assumption|wp_step))
 refine CV (oP_ (.ref l) (E:=E) (Q₁:=fun obj s₁=>obj= .ref s.heap.objs.size/\s₁={s with heap:=s.heap.push {cls:= .type "set",dict:=none,data:= .set #[] 0 (.fresh 0 0 (!w.params.followText "set-order"))}}) ⟨rfl,rfl⟩) fun r s₁ hr=> ?_;generalize (!w.params.followText "set-order")=led at h hr;cases r with
 |error e=>exact hr
 |ok fl=>
  cases fl with
  |ret obj=>
   obtain⟨rfl,rfl⟩:=hr;have hS:(s.heap.push {cls:= .type "set",dict:=none,data:= .set #[] 0 (.fresh 0 0 led)}).get? s.heap.objs.size=some {cls:= .type "set",dict:=none,data:= .set #[] 0 (.fresh 0 0 led)}:=AE _ rfl;have hT:Shared.TypeIs {s with heap:=s.heap.push {cls:= .type "set",dict:=none,data:= .set #[] 0 (.fresh 0 0 led)}} (.ref s.heap.objs.size) "set":=⟨_,hS,rfl⟩;have hli:=CY.init.lookup;have hbi:=CY.init.bind (.ref s.heap.objs.size)
   repeat (any_goals (first|assumption|wp_step))
   refine CV (codeAny_call_builtin (R:=wants (fun r s₂=>r= .none/\∃h' tk es,s₂={s with heap:=h',toks:=tk}/\
     l9_ h' s.heap.objs.size led es/\Ent prog w h' es/\Made prog w kk ad items.size es/\
     (∀b o,b<s.heap.objs.size->s.heap.get? b=some o->h'.get? b=some o)) E) CY.init.plain F.entry_set_init (check_set_init_1 hT ?_)) fun r₂ s₂ hr₂=> ?_
   .obtain⟨ol,hol,hcl,nl,hdl⟩:=hl;obtain⟨ocls,odict,odata,oslots⟩:=ol;simp only at hcl hdl;subst hcl;subst hdl;have hol':(s.heap.push {cls:= .type "set",dict:=none,data:= .set #[] 0 (.fresh 0 0 led)}).get? l=some {cls:= .type "list",dict:=odict,data:= .seq items nl,slots:=oslots}:=A4 _ hol;have hsls:=F.sub_list_set;have hslf:=F.sub_list_frozenset;have hne:(Value.type "list"==Value.type "dict")=false:=by decide
    have hl1:(s.heap.push {cls:= .type "set",dict:=none,data:= .set #[] 0 (.fresh 0 0 led)}).IsList l items:=⟨_,hol',rfl,nl,rfl⟩;unfold Builtin.«set.__init__» noKeywords Builtin.Frozenset.updateFrom;generalize hPI:pyIter=PI
    wp_walk
    subst hPI;refine wpAny_pyIter_list hl1 ?_;refine A0 (wpAny_runValue ?_);have hlS:l<s.heap.objs.size:=AG hol;have hh3:A.in1.in1.in1.handled=none:=by simp [hh]
    have hneI:l≠(s.heap.push {cls:= .type "set",dict:=none,data:= .set #[] 0 (.fresh 0 0 led)}).objs.size:=by
     rw [Ar];exact AJ (AV hlS)
    have hSf:s.heap.objs.size∉[(s.heap.push {cls:= .type "set",dict:=none,data:= .set #[] 0 (.fresh 0 0 led)}).objs.size,l]:=by
     rw [Ar];simp only [AI,Aq,Am,Bj,not_or];exact⟨AJ (BF _),BQ hlS⟩
    refine mh_ ((Walks.list hh3 _ l hneI items).toS) s.heap.objs.size
     hSf ?hu led kk ad ?hval ?hwr hn (items.size-0) 0 _ #[] (by lia) (AK _)
     ⟨⟨_,AE _ rfl,rfl,rfl⟩,(hl1.push _)⟩ ?hS0 ?hE0 ?hM0 ?hkk ?hR
    case hu=>show A.units+3<cLine;lia
    case hval=>
     intro i v hv;have hi:i<items.size:=cU_ hv;rw [(hk i hi).1,Au] at hv;exact hv.symm
    case hwr=>
     intro i hi;obtain⟨o,_,_,ho,_⟩:=(hk i hi).2;have:=AG ho;rw [Ar];simp only [AI,Am,Bj];exact AJ (AV this)
    case hS0=>exact⟨_,_,A4 _ hS,m3_ led,rfl,rfl,by show 0*5<7*3;decide⟩
    case hE0=>exact⟨fun i hi=>absurd hi (by show¬i<0;lia),fun i j k b c g g' e=>by simp at e⟩
    case hM0=>exact⟨A7 0,fun p v e=>by simp at e,fun j hj=>absurd hj (by lia)⟩
    case hkk=>exact fun j hj=>g6_ (hk j hj).2 fun o e=>A4 _ (A4 _ e)
    case hR=>
     intro s' es' hm hS' en' mk';obtain⟨h',g',d',tk',os'⟩:=s';have eg:g'=s.gens:=hm.gens;have ed:d'=s.drawn:=hm.drawn;have eo:os'=s.os:=hm.os;subst eg;subst ed;subst eo;show wpAny _ _ _ _ _ _;refine A2 ?_;show wpAny _ _ (ret Value.none) _ _ _;refine A2 ⟨rfl,h',tk',es',rfl,hS',en',mk',fun b o hb e=> ?_⟩;have hb1:b≠s.heap.objs.size:=AJ hb;have hb2:b≠(s.heap.push {cls:= .type "set",dict:=none,data:= .set #[] 0 (.fresh 0 0 led)}).objs.size:=by
      rw [Ar];exact AJ (AV hb)
     exact hm.heap b o (by simp only [AI,Aq,Am,Bj,not_or];exact⟨hb1,hb2⟩) (A4 _ (A4 _ e))
   .cases r₂ with
    |error e=>exact hr₂
    |ok fl₂=>
     cases fl₂ with
     |ret r=>
      obtain⟨rfl,h',tk,es,rfl,hS',en',mk',hk'⟩:=hr₂
      repeat (any_goals (first|assumption|wp_step))
      exact h _ _ _ hS' en' mk' hk'
     |_=>exact hr₂.elim
  |_=>exact hr.elim
end
end L2
namespace L2
open PySem PySem.SetTable PySem.Spec PyProof.Rows
theorem eW_:entryFor table "set.__iter__"=some Builtin.«frozenset.__iter__»:=
 entryFor_alias (id':="frozenset.__iter__") (by kernel_rfl) rfl (by ac_nf) (by kernel_rfl)
theorem cO_:Slot "set_iterator" "__iter__" "set_iterator.__iter__":=
 .of (owner:="set_iterator") (n:="__iter__") (by rw [typeLookup_type,builtinLookup_eq_fast];kernel_rfl) (by ac_nf) (by ac_nf) (by ac_nf)
  (by first|exact .inl (by ac_nf)|exact .inr (by ac_nf)) (by rw [isSubtype_type];kernel_rfl)
theorem eV_:entryFor table "set_iterator.__iter__"=some Builtin.«dict_keyiterator.__iter__»:=
 entryFor_alias (id':="dict_keyiterator.__iter__") (by kernel_rfl) rfl (by ac_nf) (by kernel_rfl)
theorem fd_ (a:Value):argsOk "set_iterator.__iter__" ⟨[a],[]⟩:=by unfold argsOk;kernel_rfl
theorem aZ_:Slot "set_iterator" "__next__" "set_iterator.__next__":=
 .of (owner:="set_iterator") (n:="__next__") (by rw [typeLookup_type,builtinLookup_eq_fast];kernel_rfl) (by ac_nf) (by ac_nf) (by ac_nf)
  (by first|exact .inl (by ac_nf)|exact .inr (by ac_nf)) (by rw [isSubtype_type];kernel_rfl)
theorem cH_:entryFor table "set_iterator.__next__"=some Builtin.«set_iterator.__next__»:=entryFor_of_tree (by kernel_rfl)
theorem cV_ (a:Value):argsOk "set_iterator.__next__" ⟨[a],[]⟩:=by unfold argsOk;kernel_rfl
theorem lF_ {α:Type}:∀(l:List α) (i:Nat) (h:i<l.length),([l[i]]++l.eraseIdx i).Perm l
 |[],i,h=>absurd h (by simp)
 |a::l,0,h=>by simp
 |a::l,i+1,h=>by
  have hi:i<l.length:=by simpa using h
  have:=lF_ l i hi;simp only [List.getElem_cons_succ,List.eraseIdx_cons_succ,List.singleton_append] at this⊢;exact(List.Perm.swap a l[i] _).trans (this.cons a)
theorem kP_ {α:Type} (next:Nat->Nat):∀(f k:Nat) (left:List α) (out:Array α),left.length=f->(pickOrder.go next f k left out).toList.Perm (out.toList++left)
 |0,k,left,out,e=>by
  have:left=[]:=Bh.mp e;subst this;unfold pickOrder.go;simp
 |f+1,k,left,out,e=>by
  have hp:next k%left.length<left.length:=DA _ (by lia);unfold pickOrder.go;rw [A3 hp];dsimp only;refine(kP_ next f (k+1) _ _ (by rw [List.length_eraseIdx_of_lt hp];lia)).trans ?_;rw [Array.toList_push,B2];refine List.Perm.append_left _ ?_;exact lF_ left _ hp
theorem kO_ {α:Type} (next:Nat->Nat) (xs:Array α):(pickOrder next xs).toList.Perm xs.toList:=by
 unfold pickOrder;simpa using kP_ next xs.size 0 xs.toList #[] (by simp)
def mf_ (w:World) (a:Addr) (ep:Nat) (es:Array (Int×Value)):Array (Int×Value):=if w.params.followText "set-order" then pickOrder (w.params.setOrder a ep) es else es
theorem j9_ (w:World) (a:Addr) (ep:Nat) (es:Array (Int×Value)):(mf_ w a ep es).toList.Perm es.toList:=by
 unfold mf_;split
 .exact kO_ _ _
 .exact List.Perm.refl _
theorem hG_ (w:World) (a:Addr) (ep:Nat) (es:Array (Int×Value)):(mf_ w a ep es).size=es.size:=by
 have:=(j9_ w a ep es).length_eq;simpa using this
def e5_ (w:World) (t:SetTable) (i:Nat):Nat:=if w.params.followText "set-order" then 0 else if i=0 then 0 else t.place.getD (i-1) 0+1
theorem hs_ {xs:Array Nat} (r:Ris xs) {j p:Nat} (hp:p<=xs.size) (h1:∀i,i<p->xs.getD i 0<j) (h2:∀i,p<=i->i<xs.size->j<=xs.getD i 0):below xs j=p:=by
 obtain⟨a1,a2,a3⟩:=dx_ r j;rcases Nat.lt_trichotomy (below xs j) p with c|c|c
 .have:=h1 _ c;have:=a3 _ (A7 _) (by lia);lia
 .exact c
 .have:=a2 _ c;have:=h2 p (A7 _) (by lia);lia
theorem ne_ {t:SetTable} (r:Ris t.place) {i:Nat} (hi:i<=t.place.size):below t.place (if i=0 then 0 else t.place.getD (i-1) 0+1)=i:=by
 by_cases z:i=0
 .subst z;exact hs_ r (AK _) (fun i h=>absurd h (by lia)) fun i _ _=>AK _
 .rw [A9 z];refine hs_ r hi (fun j hj=> ?_) fun j h1 h2=> ?_
  .rcases Bl j (i-1) with c|c
   .have:=r j (i-1) c (by lia);lia
   .have:j=i-1:=by lia
    subst this;lia
  .have:=r (i-1) j (by lia) h2;lia
section
variable {prog:Program}{w:World}{A:Around}{E:Value->Shared->Prop}{s:Shared}
theorem oO_ (a:Addr) (slot given epochThen:Nat):setNext a slot given epochThen=(do
  let (es,epoch,t)<-setState a
  if<-setsByText then
   if epoch !=epochThen then unsupported "set_iterator.__next__:elements-changed"
   return ((<-setWalk a)[given]?).map fun e=>(e.2,slot)
  if !t.plain&&es.size>1 then unsupported "set_iterator.__next__:the-table-is-plain-no-more"
  (do if !t.led&& !es.isEmpty then unsupported "set:maker-not-led":Sem Unit)
  let i:=SetTable.below t.place slot
  return match es[i]?,t.place[i]? with
   |some (_,x),some j=>some (x,j+1)
   |_,_=>none):=rfl
theorem iB_ {S:Addr}{es:Array (Int×Value)}{ep:Nat}{t:SetTable}{i:Nat}{Q:Option (Value×Nat)->Shared->Prop}
  (ho:s.heap.get? S=some {cls:= .type "set",dict:=none,data:= .set es ep t}) (b:Tb t es) (hs:es.size<=t.mask) (hl:t.led= !w.params.followText "set-order") (hp:t.plain=true) (hi:i<=es.size)
  (h:Q (((mf_ w S ep es)[i]?).map fun e=>(e.2,e5_ w t (i+1))) s):wpAny (model prog w) A (setNext S (e5_ w t i) i ep) Q E s:=by
 have hf:=cW_ b hs;rw [oO_];refine A0 (BB ho rfl hf ?_);dsimp only;unfold setsByText;refine A0 (A0 (D2 (A2 ?_)));show wpAny _ _ (if(w.params.followText "set-order")=true then _ else _) _ _ s;unfold mf_ e5_ at h;unfold e5_;cases ht:w.params.followText "set-order" with
 |true=>
  rw [ht] at h;simp only [Bz] at h⊢;simp only [Cd,AF,Ah];unfold setWalk;refine A0 (A0 (BB ho rfl hf ?_));dsimp only;unfold setsByText;refine A0 (A0 (D2 (A2 ?_)));show wpAny _ _ (if(w.params.followText "set-order")=true then _ else _) _ _ s;rw [ht];simp only [Bz];refine A0 (D2 (A2 ?_));exact A2 h
 |false=>
  rw [ht] at h hl;simp only [AF,Ah] at h⊢;rw [hp,hl];simp only [B9,Cg,Bool.false_and,AF,Ah];refine A0 (A2 ?_);rw [ne_ b.ris (by rw [b.size];exact hi)];refine A2 ?_;rcases Bl i es.size with c|c
  .have c':i<t.place.size:=by rw [b.size];exact c
   have e2:t.place.getD (i+1-1) 0=t.place[i]:=by simp [Array.getD,c']
   rw [Aa c] at h⊢;rw [Aa c'];rw [A9 (by lia),e2] at h;exact h
  .rw [BX c] at h⊢;exact h
def fe_ (h:Heap) (it S:Addr) (slot i n ep:Nat):Prop:=∃o,h.get? it=some o/\o.cls= .type "set_iterator"/\o.data= .fields #[.int slot 0, .int i 0, .ref S, .int n 0, .int ep 0]
theorem fe_.typeIs {it S:Addr}{slot i n ep:Nat} (x:fe_ s.heap it S slot i n ep):s.TypeIs (.ref it) "set_iterator":=let ⟨o,ho,hc,_⟩:=x;⟨o,ho,hc⟩
theorem fe_.mv {h h':Heap}{it S:Addr}{slot i n ep:Nat} (x:fe_ h it S slot i n ep) (e:∀o,h.get? it=some o->h'.get? it=some o):fe_ h' it S slot i n ep:=let ⟨o,ho,r⟩:=x;⟨o,e _ ho,r⟩
theorem mV_ {S:Addr}{es:Array (Int×Value)}{ep:Nat}{t:SetTable}{Q:Value->Shared->Prop}
  (ho:s.heap.get? S=some {cls:= .type "set",dict:=none,data:= .set es ep t}) (b:Tb t es) (hs:es.size<=t.mask) (hp:t.plain=true)
  (h:Q (.ref s.heap.objs.size) {s with heap:=s.heap.push {cls:= .type "set_iterator",data:= .fields #[.int (e5_ w t 0:Nat) 0, .int (0:Nat) 0, .ref S, .int es.size 0, .int ep 0]}}):
  wpAny (model prog w) A (pyIter (.ref S)) Q E s:=by
 have hT:s.TypeIs (.ref S) "set":=⟨_,ho,rfl⟩;have hf:=cW_ b hs;refine wpAny_pyIter_slot hT F.slot_set_iter (AY F.slot_set_iter hT eW_ ?_ (F.args_set_iter_1 _));unfold Builtin.«frozenset.__iter__» Builtin.Frozenset.slot0 slotArgs;simp only [List.isEmpty_nil,B9,AF,↓reduceIte,bind_assoc,B8,Cd];unfold Builtin.Frozenset.addrOf Builtin.Frozenset.sizeOf setEntries;refine A0 (A2 ?_);try dsimp only
 refine A0 (A2 ?_);refine A0 (A0 (A0 (BB ho rfl hf (A2 (A2 ?_)))));have hdr:∀{Q':Bool->Shared->Prop},Q' false s->wpAny (model prog w) A.in1 (setDrawn S) Q' E s:=by
  intro Q' q;unfold setDrawn;refine A0 (BB ho rfl hf ?_);dsimp only;unfold setsByText;refine A0 (A0 (D2 (A2 ?_)));refine A2 ?_;have:(!t.plain&&decide (es.size>1))=false:=by rw [hp];rfl
  show Q' (!w.params.followText "set-order"&&(!t.plain&&decide (es.size>1))) s;rw [this,DD];exact q
 refine A0 (hdr ?_);simp only [AF,Ah];refine A0 (A2 ?_);refine A0 (wpAny_setEpoch_of ho rfl hf ?_);unfold newFields;refine A0 (Aj (A2 ⟨_,rfl,"set_iterator",_,⟨_,AE _ rfl,rfl⟩,aZ_.lookup, ?_⟩));have e0:e5_ w t 0=0:=by unfold e5_;split<;>rfl
 rw [e0] at h;simpa [rawInt] using h
theorem fx_ {h:Heap}{a:Addr}{o:Obj}{vs:Array Value} (ho:h.get? a=some o) (hd:o.data= .fields vs) (f:Array Value->Array Value):
  ∃o',(h.update a (Obj.mapFields f)).get? a=some o'/\o'.cls=o.cls/\o'.data= .fields (f vs):=
 ⟨_,C3 _ ho (D0 (Bg hd _)),Obj.cls_mapFields ..,Bg hd _⟩
theorem kt_ {it S:Addr}{es:Array (Int×Value)}{ep:Nat}{t:SetTable}{i:Nat}{e:Int×Value}{Q:Option Value->Shared->Prop} (hit:fe_ s.heap it S (e5_ w t i) i es.size ep)
  (ho:s.heap.get? S=some {cls:= .type "set",dict:=none,data:= .set es ep t}) (b:Tb t es) (hs:es.size<=t.mask) (hl:t.led= !w.params.followText "set-order") (hp:t.plain=true) (hi:i<es.size)
  (he:(mf_ w S ep es)[i]? =some e) (hQ:∀h',fe_ h' it S (e5_ w t (i+1)) (i+1) es.size ep->Heap.SameBut it s.heap h'->Q (some e.2) {s with heap:=h'}):
  wpAny (model prog w) A (pyNext (.ref it)) Q E s:=by
 obtain⟨o,hoi,hc,hd⟩:=id hit;have hf:=cW_ b hs;unfold pyNext;refine A0 (C9 (Ap (name:=Str.ofString "__next__") hit.typeIs aZ_
  (AY aZ_ hit.typeIs cH_ ?_ (cV_ _))))
 show wpAny _ _ (fieldsOf (.ref it)>>=_) _ _ s;refine A0 (Cr hoi hd ?_);dsimp only;unfold setEntries;refine A0 (A0 (BB ho rfl hf (A2 ?_)));dsimp only;rw [A9 (by simp)];simp only [Ai];refine A0 (iB_ ho b hs hl hp (AZ hi) ?_);rw [he];dsimp only [Option.map_some];refine A0 (By hoi hd (by simp) ?_);obtain⟨o1,ho1,hc1,hd1⟩:=fx_ hoi hd (·.setIfInBounds 0 (rawInt (e5_ w t (i+1):Nat)));have sb1:=B0 s.heap it (Obj.mapFields (·.setIfInBounds 0 (rawInt (e5_ w t (i+1):Nat))));generalize s.heap.update it (Obj.mapFields (·.setIfInBounds 0 (rawInt (e5_ w t (i+1):Nat))))=h1 at ho1 sb1⊢;refine A0 (By (s:={s with heap:=h1}) ho1 hd1 (by simp) ?_);obtain⟨o2,ho2,hc2,hd2⟩:=fx_ ho1 hd1 (·.setIfInBounds 1 (rawInt ((i:Int)+1)));have sb2:=B0 h1 it (Obj.mapFields (·.setIfInBounds 1 (rawInt ((i:Int)+1))));dsimp only;generalize h1.update it (Obj.mapFields (·.setIfInBounds 1 (rawInt ((i:Int)+1))))=h2 at ho2 sb2⊢;refine A2 ⟨_,rfl,A2 (hQ _ ⟨o2,ho2,by rw [hc2,hc1,hc], ?_⟩ (sb1.trans sb2))⟩;rw [hd2];simp [rawInt]
theorem mp_ {it S:Addr}{es:Array (Int×Value)}{ep:Nat}{t:SetTable}{Q:Option Value->Shared->Prop} (hh:A.handled=none) (hit:fe_ s.heap it S (e5_ w t es.size) es.size es.size ep)
  (ho:s.heap.get? S=some {cls:= .type "set",dict:=none,data:= .set es ep t}) (b:Tb t es) (hs:es.size<=t.mask) (hl:t.led= !w.params.followText "set-order") (hp:t.plain=true)
  (hQ:∀h',Heap.ExtBut it s.heap h'->Q none {s with heap:=h'}):
  wpAny (model prog w) A (pyNext (.ref it)) Q E s:=by
 obtain⟨o,hoi,hc,hd⟩:=id hit;have hf:=cW_ b hs;unfold pyNext;refine A0 (C9 (Ap (name:=Str.ofString "__next__") hit.typeIs aZ_
  (AY aZ_ hit.typeIs cH_ ?_ (cV_ _))))
 show wpAny _ _ (fieldsOf (.ref it)>>=_) _ _ s;refine A0 (Cr hoi hd ?_);dsimp only;unfold setEntries;refine A0 (A0 (BB ho rfl hf (A2 ?_)));dsimp only;rw [A9 (by simp)];simp only [Ai];refine A0 (iB_ ho b hs hl hp (A7 _) ?_);rw [BX (by rw [hG_];exact A7 _)];dsimp only [Option.map_none];refine A0 (By hoi hd (by simp) ?_);show wpAny _ _ (newExc (.type "StopIteration") []>>=_) _ _ _;refine A0 ?_;simp only [newExc,newTuple];refine A0 (Aj ?_ (by size_fits));refine A0 (m:=firstArgMember _ _) (D9 (a:=Value.none) (by first|rfl|(simp only [firstArgMember];rfl)) ?_);refine Aj ?_ (by size_fits);simp only [raiseNew];refine A0 (wpAny_handled ?_);rw [show A.in1.handled=none from hh];refine A0 (A2 (wpAny_throw ?_));refine A0 (Bt (T:="StopIteration") (b:=true) ⟨_,AE _ rfl,rfl⟩ isSubtype_stop ?_);exact A2 (hQ _ (((B0 ..).extBut.push _).push _))
theorem mg_ (hh:A.handled=none) (I S:Addr) (hne:S≠I) {es:Array (Int×Value)}{ep:Nat}{t:SetTable} (b:Tb t es) (hs:es.size<=t.mask) (hl:t.led= !w.params.followText "set-order") (hp:t.plain=true):
  Walks prog w A I [I,S] [I] es.size (fun i v=>∃e,(mf_ w S ep es)[i]? =some e/\v=e.2) (fun i h=>fe_ h I S (e5_ w t i) i es.size ep/\h.get? S=some {cls:= .type "set",dict:=none,data:= .set es ep t}) where
 sub:=fun b hb=>by simp at hb;simp [hb]
 frame:=fun _ _ _ st hk=>⟨st.1.mv fun o e=>hk I (by simp) o e,hk S (by simp) _ st.2⟩
 item:=fun i s Q E hi st hQ=>by
  have hi':i<(mf_ w S ep es).size:=by rw [hG_];exact hi
  refine kt_ st.1 st.2 b hs hl hp hi (Aa hi') fun h' hit' hs'=> ?_;exact hQ _ h' s.toks ⟨_,Aa hi',rfl⟩ ⟨hit',hs'.extBut S _ hne st.2⟩ fun b o hb e=>hs'.extBut b o (fun h=>hb (by simp [h])) e
 done:=fun s Q E st hQ=>mp_ hh st.1 st.2 b hs hl hp fun h' he'=>hQ h' s.toks fun b o hb e=>he' b o (fun h=>hb (by simp [h])) e
 self:=fun _ s _ _ st hQ=>by
  refine wpAny_pyIter_slot st.1.typeIs cO_ (AY cO_ st.1.typeIs eV_ ?_ (fd_ _));show wpAny _ _ (ret (.ref I)) _ _ s;exact A2 ⟨_,rfl,"set_iterator",_,st.1.typeIs,aZ_.lookup,hQ⟩
end
end L2
namespace L2
open PySem PySem.SetTable PySem.Spec PyProof.Rows PySem.W
section
variable {prog:Program}{w:World}{A:Around}{E:Value->Shared->Prop}{s:Shared}
theorem ii_ {S:Addr}{es:Array (Int×Value)}{ep:Nat}{t:SetTable}{Q:List Value->Shared->Prop} (hh:A.handled=none)
  (ho:s.heap.get? S=some {cls:= .type "set",dict:=none,data:= .set es ep t}) (b:Tb t es) (hs:es.size<=t.mask) (hl:t.led= !w.params.followText "set-order") (hp:t.plain=true)
  (hQ:∀h' tk vs,(∀b o,s.heap.get? b=some o->h'.get? b=some o)->s.heap.objs.size<=h'.objs.size->vs.Perm (es.toList.map (·.2))->Q vs {s with heap:=h',toks:=tk}):
  wpAny (model prog w) A (collect (.ref S)) Q E s:=by
 unfold collect;refine A0 (wpAny_runValue (Bp F.entry_proto_collect ?_));rw [Bk F.plain_proto_collect _];show wpAny _ A.in1 (newList []>>=fun l=>again (.builtin "list.__iadd__" ⟨[l, .ref S],[]⟩)) _ _ s;refine A0 (Aj ?_);refine A2 ⟨D8 F.plain_list_iadd _,Bp F.entry_list_iadd ?_⟩;rw [Bk F.plain_list_iadd _];show wpAny _ A.in1 (Builtin.List.listExtendWith (.ref s.heap.objs.size) (.ref S) (.ref s.heap.objs.size)) _ _ _;have hS:S<s.heap.objs.size:=AG ho;have ho1:(s.heap.push {cls:= .type "list",data:= .seq ([]:List Value).toArray}).get? S=some {cls:= .type "set",dict:=none,data:= .set es ep t}:=A4 _ ho;have hT:Shared.TypeIs {s with heap:=s.heap.push {cls:= .type "list",data:= .seq ([]:List Value).toArray}} (.ref S) "set":=⟨_,ho1,rfl⟩;unfold Builtin.List.listExtendWith;refine A0 (DF hT ?_);have h1:Builtin.List.listSameRef (.ref s.heap.objs.size) (.ref S)=false:=by
  show(s.heap.objs.size==S)=false;exact CP.mpr (BQ hS)
 have h2:(Value.type "set"==Value.type "list")=false:=by decide
 have h3:(Value.type "set"==Value.type "tuple")=false:=by decide
 simp only [h1,h2,h3,Bool.or_false,AF,Ah];refine A0 (mV_ ho1 b hs hp ?_);refine A0 (An ?_);unfold Builtin.List.listLengthHint;generalize hH:s.heap.push {cls:= .type "list",data:= .seq ([]:List Value).toArray}=H at ho1 hT⊢;have hHs:H.objs.size=s.heap.objs.size+1:=by rw [<-hH,Ar]
 have hT2:Shared.TypeIs {s with heap:=H.push {cls:= .type "set_iterator",data:= .fields #[.int (e5_ w t 0:Nat) 0, .int (0:Nat) 0, .ref S, .int es.size 0, .int ep 0]}} (.ref S) "set":=⟨_,A4 _ ho1,rfl⟩;refine A0 (CI hT2 F.slot_set_len.lookup ?_)
 wp_delta
 refine A0 (Bt (b:=true) hT2 (by rw [isSubtype_type];kernel_rfl) ?_);show wpAny _ A.in1 (typeOf (.ref S)>>=_) _ _ _;refine A0 (DF hT2 ?_);refine A2 ?_;rw [AA (by decide)];refine A0 (D1 ?_);unfold Builtin.List.listTouch;have hne:S≠H.objs.size:=by rw [hHs];exact AJ (AV hS)
 have hI0:fe_ (H.push {cls:= .type "set_iterator",data:= .fields #[.int (e5_ w t 0:Nat) 0, .int (0:Nat) 0, .ref S, .int es.size 0, .int ep 0]}) H.objs.size S (e5_ w t 0) 0 es.size ep:=⟨_,AE _ rfl,rfl,rfl⟩;have hL:(H.push {cls:= .type "set_iterator",data:= .fields #[.int (e5_ w t 0:Nat) 0, .int (0:Nat) 0, .ref S, .int es.size 0, .int ep 0]}).get? s.heap.objs.size=some (seqObj "list" #[] 0):=A4 _ (hH▸AE _ rfl);have hS2:(H.push {cls:= .type "set_iterator",data:= .fields #[.int (e5_ w t 0:Nat) 0, .int (0:Nat) 0, .ref S, .int es.size 0, .int ep 0]}).get? S=some {cls:= .type "set",dict:=none,data:= .set es ep t}:=A4 _ ho1;have hold:∀b o,s.heap.get? b=some o->(H.push {cls:= .type "set_iterator",data:= .fields #[.int (e5_ w t 0:Nat) 0, .int (0:Nat) 0, .ref S, .int es.size 0, .int ep 0]}).get? b=some o:=fun b o e=>A4 _ (hH▸A4 _ e);have hsz:(H.push {cls:= .type "set_iterator",data:= .fields #[.int (e5_ w t 0:Nat) 0, .int (0:Nat) 0, .ref S, .int es.size 0, .int ep 0]}).objs.size=s.heap.objs.size+2:=by rw [Ar,hHs]
 generalize H.push {cls:= .type "set_iterator",data:= .fields #[.int (e5_ w t 0:Nat) 0, .int (0:Nat) 0, .ref S, .int es.size 0, .int ep 0]}=H1 at hI0 hL hS2 hold hsz⊢;refine A0 (A0 (CU (s:={s with heap:=H1}) hL rfl ?_ (AK _) (by decide)));have hL1:=CS hL (fun x=>x.push Value.none);have hu1:∀b,b≠s.heap.objs.size->(H1.update s.heap.objs.size (Obj.mapSeq fun x=>x.push Value.none)).get? b=H1.get? b:=(B0 H1 s.heap.objs.size _).2;dsimp only;generalize H1.update s.heap.objs.size (Obj.mapSeq fun x=>x.push Value.none)=H2 at hL1 hu1⊢;refine CU (s:={s with heap:=H2}) hL1 rfl ?_ (by simp [As]) (by simp);have hL2:=CS hL1 (fun x=>x.pop);have hu2:∀b,b≠s.heap.objs.size->(H2.update s.heap.objs.size (Obj.mapSeq fun x=>x.pop)).get? b=H2.get? b:=(B0 H2 s.heap.objs.size _).2;dsimp only;generalize H2.update s.heap.objs.size (Obj.mapSeq fun x=>x.pop)=H3 at hL2 hu2⊢;have hk3:∀b o,b≠s.heap.objs.size->H1.get? b=some o->H3.get? b=some o:=fun b o hb e=>by rw [hu2 b hb,hu1 b hb];exact e
 have hSf:s.heap.objs.size∉[H.objs.size,S]:=by
  rw [hHs];simp only [AI,Am,Bj,not_or];exact⟨AJ (BF _),BQ hS⟩
 have hSn:S≠s.heap.objs.size:=AJ hS;have hHn:H.objs.size≠s.heap.objs.size:=by rw [hHs];exact BQ (BF _)
 refine A2 ⟨D8 F.plain_extend_loop _,codeAny_extend_loopS (mg_ (A:=A.in1) (ep:=ep) hh H.objs.size S hne b hs hl hp).toS ?_ _ hSf _ es.size 0 _ _ _ rfl (AK _) ⟨hI0.mv fun o e=>hk3 _ o hHn e,hk3 S _ hSn hS2⟩ hL2 (ItemsOf.nil _) fun s' acc' c' hm hS' hacc=> ?_⟩
 .have:es.size<=127:=by rcases b.mask with e|e|e<;>lia
  rw [As];lia
 show wpAny _ A (load s.heap.objs.size>>=_) _ _ s';refine A0 (wpAny_load hS' ?_);obtain⟨h',g',d',tk',os'⟩:=s';have eg:g'=s.gens:=hm.gens;have ed:d'=s.drawn:=hm.drawn;have eo:os'=s.os:=hm.os;subst eg;subst ed;subst eo;refine A2 (hQ h' tk' acc'.toList (fun b o e=> ?_) (AZ (AG hS')) ?_)
 .have hlt:=AG e;refine hm.heap b o (fun hb=> ?_) (hk3 b o (AJ hlt) (hold b o e));simp only [AI,Am,Bj] at hb;rcases hb with hb|hb
  .exact absurd hlt (by rw [hb];exact Bo _)
  .rw [hb,hHs] at hlt;exact absurd hlt (Nat.not_lt.mpr (Cs _))
 .have:acc'.toList=(mf_ w S ep es).toList.map (·.2):=by
   apply List.ext_getElem?;intro i;rw [A6,CD,CD];rcases Bl i es.size with c|c
   .have hi:i<acc'.size:=by rw [hacc.1];exact c
    obtain⟨e,he,hv⟩:=hacc.2 i _ (Aa hi);rw [Aa hi,hv,he];rfl
   .rw [BX (by rw [hacc.1];exact c),BX (by rw [hG_];exact c)];rfl
  rw [this];exact(j9_ w S ep es).map _
abbrev lsH (h:Heap) (vs:List Value):Heap:=h.push (seqObj "list" vs.toArray 0)
theorem gU_ (h:Heap) (vs:List Value):(lsH h vs).get? h.objs.size=some (seqObj "list" vs.toArray 0):=AE _ rfl
theorem f6_ {h:Heap}{vs:List Value}{b:Addr}{o:Obj} (hb:h.get? b=some o):(aI_ (lsH h vs) h.objs.size vs).get? b=some o:=by
 have hlt:b<h.objs.size:=AG hb;have n0:b≠h.objs.size:=AJ hlt;have n1:b≠h.objs.size+1:=AJ (AV hlt);have n2:b≠h.objs.size+1+1:=AJ (AV (AV hlt));rw [Ay _ _ _ (by rw [Bn,Ax,Bn];exact n2),Ay _ _ _ (by rw [Ax,Bn];exact n1),DE _ _ _ _ n0,Ay _ _ _ n0];exact hb
theorem gT_ {h:Heap}{vs:List Value}{out:Array Value}{b:Addr}{o:Obj} (hb:h.get? b=some o):(sortedHeap (lsH h vs) h.objs.size vs out).get? b=some o:=by
 unfold sortedHeap;rw [DE _ _ _ _ (AJ (AG hb))];exact f6_ hb
theorem iP_ (h:Heap) (vs:List Value) (out:Array Value):∃e,(sortedHeap (lsH h vs) h.objs.size vs out).get? h.objs.size=some (seqObj "list" out e):=by
 obtain⟨e1,ho1⟩:∃e1,((lsH h vs).update h.objs.size (Obj.mapSeq fun _=>(#[]:Array Value))).get? h.objs.size=some (seqObj "list" #[] e1):=⟨_,CS (gU_ h vs) (fun _=> #[])⟩;have ho6:(aI_ (lsH h vs) h.objs.size vs).get? h.objs.size=some (seqObj "list" #[] e1):=by
  rw [Ay _ _ _ (by rw [Bn,Ax,Bn];exact AJ (AV (BF _))),Ay _ _ _ (by rw [Ax,Bn];exact AJ (BF _))];exact ho1
 exact⟨_,CS ho6 (fun _=>out)⟩
theorem jx_ {v:Value}{nZ_:List Value->Shared->Prop}{Q:Value->Shared->Prop} (hcol:wpAny (model prog w) A.in1 (collect v) nZ_ E s)
  (h:∀vs s1,nZ_ vs s1->vs.length<64/\(vs.length<2->Q (.ref s1.heap.objs.size) {s1 with heap:=sortedHeap (lsH s1.heap vs) s1.heap.objs.size vs vs.toArray})/\
   (2<=vs.length->∃(c:Nat->Nat->Bool) (kd:SortKind),
    (∀(R:SortKind->Shared->Prop) (E:Value->Shared->Prop),R kd {s1 with heap:=aI_ (lsH s1.heap vs) s1.heap.objs.size vs}->wpAny (model prog w) A.in1.in1 (keyKind' vs.toArray) R E {s1 with heap:=aI_ (lsH s1.heap vs) s1.heap.objs.size vs})/\
    (∀i j,i<vs.length->j<vs.length->∀C:Bool->Shared->Prop,C (c i j) {s1 with heap:=aI_ (lsH s1.heap vs) s1.heap.objs.size vs}->wpAny (model prog w) A.in1.in1 (keyLt' kd (vs.getD i .none) (vs.getD j .none)) C (fun _ _=>False) {s1 with heap:=aI_ (lsH s1.heap vs) s1.heap.objs.size vs})/\
    ∀p,Ord vs.length p->p=cn_ c (kas_sort vs.length)->Q (.ref s1.heap.objs.size) {s1 with heap:=sortedHeap (lsH s1.heap vs) s1.heap.objs.size vs (p.map fun i=>vs.getD i .none)})):
  wpAny (model prog w) A (call (.builtin "sorted") [v]) Q E s:=by
 refine Calls.call_function_entry kind_sorted plain_sorted entry_sorted (args_sorted1 _) ?_;unfold Builtin.«sorted»;refine A0 (m:=checkCount "sorted" 1 1 _) (A2 ?_);refine A0 (thn hcol fun vs s1 g=> ?_);obtain⟨h64,few,many⟩:=h vs s1 g;refine A0 (D7 ?_ (by rw [As];lia));show wpAny _ _ _ _ _ {s1 with heap:=lsH s1.heap vs};by_cases h2:vs.length<2
 .refine A0 (An (AY slot_list_sort ⟨_,gU_ s1.heap vs,rfl⟩ entry_list_sort (iA_ (s:={s1 with heap:=lsH s1.heap vs}) (gU_ s1.heap vs) h2 ⟨_,rfl, ?_⟩) (args_list_sort _)));exact A2 ⟨_,rfl,few h2⟩
 .obtain⟨c,kd,hkd,hc,hq⟩:=many (by lia);refine A0 (An (AY slot_list_sort ⟨_,gU_ s1.heap vs,rfl⟩ entry_list_sort (kq_ (c:=c) (s:={s1 with heap:=lsH s1.heap vs}) (gU_ s1.heap vs) (by lia) h64 (fun R=>hkd R _) hc fun p hp hpc=>⟨_,rfl, ?_⟩) (args_list_sort _)));exact A2 ⟨_,rfl,hq p hp hpc⟩
end
section
variable {X:Cx}{pins:List (Addr×Obj)}{σ:St}{H:Hp}{s:Shared}
theorem is_:∀{xs:List Int}{vs:List Value},aP_ (xs.map V.int) vs->∀(prog:Program) (w:World),ItemsAre (intKind prog w) xs vs
 |[],_, .nil,_,_=> .nil
 |x::xs,_, .cons r1 r2,prog,w=>by
  obtain⟨t,rfl⟩:=r1;exact .cons (intKind_is prog w x t) (is_ r2 prog w)
theorem kk_ (I:Inv X pins σ H s) {a:Addr}{xs:List Int} (h:SqT X.K H a (xs.map V.int)):IsTupleKey (intKind X.prog X.w) s.heap xs a:=by
 obtain⟨its,r,p,z⟩:=I.tuple h;obtain⟨o,ho,hc,n,hd⟩:=p;exact⟨o,_,n,ho,hc,hd,is_ r _ _⟩
theorem qD_ {A:Around}{k:Nat} (hr:Room k A):A.units+8<cLine:=Nat.lt_of_le_of_lt (Nat.add_le_add_left (by decide:8<=64) _) hr.units
def rV_:List V->Hp->VK->Prop:=fun vs H Q=>∃(v:V) (xss:List (List Int)) (m:Nat),vs=[v]/\Is H (.l (xss.map tI)) v/\0<m/\(∀xs∈xss,xs.length=m)/\xss.length<64/\
 ∀(yss:List (List Int)) (q:Addr) (H':Hp),yss.Nodup->(∀z,z∈yss↔z∈xss)->(∀i j,i<j->j<yss.length->ltI (yss.getD j []) (yss.getD i [])=false)->H q=none->al_ H H'->Is H' (.l (yss.map tI)) (.ref q)->Q (.ref q) H'
theorem kp_ (I:Inv X pins σ H s) {rs:List V}{xss:List (List Int)}{m:Nat}{vs:List Value} (hi:Iss H (xss.map tI) rs) (r':aP_ rs vs) (hm:0<m) (hne':∀xs∈xss,xs.length=m) (hlen:xss.length<64) {Q:VK}
  (q:∀(yss:List (List Int)) (q:Addr) (H':Hp),yss.Perm xss->(∀i j,i<j->j<yss.length->ltI (yss.getD j []) (yss.getD i [])=false)->H q=none->al_ H H'->Is H' (.l (yss.map tI)) (.ref q)->Q (.ref q) H') (A:Around):
  vs.length<64/\(vs.length<2->EP X pins σ Q (.ref s.heap.objs.size) {s with heap:=sortedHeap (lsH s.heap vs) s.heap.objs.size vs vs.toArray})/\
   (2<=vs.length->∃(c:Nat->Nat->Bool) (kd:SortKind),
    (∀(R:SortKind->Shared->Prop) (E:Value->Shared->Prop),R kd {s with heap:=aI_ (lsH s.heap vs) s.heap.objs.size vs}->wpAny (model X.prog X.w) A.in1.in1 (keyKind' vs.toArray) R E {s with heap:=aI_ (lsH s.heap vs) s.heap.objs.size vs})/\
    (∀i j,i<vs.length->j<vs.length->∀C:Bool->Shared->Prop,C (c i j) {s with heap:=aI_ (lsH s.heap vs) s.heap.objs.size vs}->wpAny (model X.prog X.w) A.in1.in1 (keyLt' kd (vs.getD i .none) (vs.getD j .none)) C (fun _ _=>False) {s with heap:=aI_ (lsH s.heap vs) s.heap.objs.size vs})/\
    ∀p,Ord vs.length p->p=cn_ c (kas_sort vs.length)->EP X pins σ Q (.ref s.heap.objs.size) {s with heap:=sortedHeap (lsH s.heap vs) s.heap.objs.size vs (p.map fun i=>vs.getD i .none)}):=by
 have hne:∀xs∈xss,xs≠[]:=fun xs hx z=>by have:=hne' xs hx;rw [z] at this;exact absurd this (by show¬0=m;lia)
 have hrs:rs.length=xss.length:=by rw [hi.length,A1]
 have ln:=r'.length;have lns:vs.length=xss.length:=by lia
 refine⟨by lia,fun h2=> ?_,fun h2=>⟨po_ xss,tuples' true,fun R E hR=> ?_,fun i j hi' hj' C hC=> ?_,fun p ho hpc=> ?_⟩⟩
 .obtain⟨e,he⟩:=iP_ s.heap vs vs.toArray;have fr:=I.hok.fresh (a:=s.heap.objs.size) (A7 _);exact⟨.ref s.heap.objs.size,_,I.laid (t':=s.toks) (fun _ _=>gT_) (A7 _) (show aH_ X.prog X.w _ _ _ (.lst rs) from⟨by rw [As];lia,vs,e,r',he⟩),rfl,q xss _ _ (List.Perm.refl _) (fun i j a b=>absurd b (by lia)) fr (al_.new fr) (co_ ae_ (hi.mono (al_.new fr)))⟩
 .have I2:Inv X pins σ H {s with heap:=aI_ (lsH s.heap vs) s.heap.objs.size vs}:=I.kept (t':=s.toks) fun b o e=>f6_ e;obtain⟨fs,k1,k2,k3⟩:=i0_ I2 hi r' hne;exact kat_kind (T:= .type "int") k1 (by lia) (fun f hf=>by obtain⟨z,t,rfl⟩:=k3 f hf;exact .now) rfl hR
 .have I2:Inv X pins σ H {s with heap:=aI_ (lsH s.heap vs) s.heap.objs.size vs}:=I.kept (t':=s.toks) fun b o e=>f6_ e;have g:∀i,i<xss.length->∃a,vs.getD i .none= .ref a/\SqT X.K H a ((xss.getD i []).map V.int):=fun i h=>by
   have hr:i<rs.length:=by lia
   obtain⟨d,hd,h1⟩:=hi.of_get (A3 hr);rw [A6,A3 h] at hd;cases hd;obtain⟨a,ea,ha⟩:=cg_ h1;obtain⟨u,hu1,ru⟩:=r'.get (A3 hr);rw [ea] at ru;obtain rfl:u=Value.ref a:=ru;refine⟨a, ?_, ?_⟩
   .rw [A5,hu1];rfl
   .rw [A5,A3 h];exact SqT.of ha
  obtain⟨a1,e1,s1⟩:=g i (by lia);obtain⟨a2,e2,s2⟩:=g j (by lia);rw [e1,e2];rw [kY_ (by lia) (by lia)] at hC;exact mS_ I2 s1 s2 hC
 .rw [lns] at ho hpc;have hpl:∀i∈p.toList,i<xss.length:=fun i hi=>ho.lt hi;obtain⟨e,he⟩:=iP_ s.heap vs (p.map fun i=>vs.getD i .none);have en:(p.map fun i=>vs.getD i .none)=List.toArray (p.toList.map fun i=>vs.getD i .none):=by
   apply Array.toList_inj.mp;simp
  rw [en] at he⊢;have fr:=I.hok.fresh (a:=s.heap.objs.size) (A7 _);refine⟨.ref s.heap.objs.size,_,I.laid (t':=s.toks) (fun _ _=>gT_) (A7 _) (show aH_ X.prog X.w _ _ _ (.lst (p.toList.map fun i=>rs.getD i .non)) from⟨?_,_,e,ek_ r' p.toList (fun i hi=>by rw [hrs];exact hpl i hi),he⟩),rfl,q (p.toList.map fun i=>xss.getD i []) _ _ ?_ ?_ fr (al_.new fr) (co_ ae_ ((i4_ hi p.toList hpl).mono (al_.new fr)))⟩
  .rw [A1,B1,As,ho.size];lia
  .have pp:=(CM.mp ho).map fun i=>xss.getD i [];rw [show(List.range xss.length).toArray.toList=List.range xss.length from rfl,mN_] at pp;exact pp
  .intro i j hij hj;rw [A1,B1,ho.size] at hj;have up:=lk_ (oI_ (xss:=xss) (m:=m) (by lia) hne') (n:=xss.length) (by lia) i j hij hj;rw [<-hpc] at up;have g:∀i,i<xss.length->(p.toList.map fun i=>xss.getD i []).getD i []=xss.getD (at0 p i) []/\at0 p i<xss.length:=fun i h=>by
    have hs:i<p.size:=by rw [ho.size];exact h
    have e:at0 p i=p[i]:=by simp [at0,Array.getD,hs]
    rw [e];refine⟨?_,ho.lt (by simp)⟩;rw [A5,A6];simp [hs]
   obtain⟨g1,g2⟩:=g i (by lia);obtain⟨g3,g4⟩:=g j hj;rw [g1,g3];rw [kY_ g4 g2] at up;exact up
theorem c7_ {α β:Type}{f:β->α}{P:β->Prop}:∀(vs:List α),(∀v∈vs,∃j,P j/\v=f j)->∃js:List β,vs=js.map f/\∀j∈js,P j
 |[],_=>⟨[],rfl,fun _ h=>nomatch h⟩
 |v::vs,h=>by
  obtain⟨j,pj,e⟩:=h v (by simp);obtain⟨js,es,ps⟩:=c7_ vs fun u hu=>h u (by simp [hu]);exact⟨j::js,by rw [e,es];rfl,fun i hi=>by rcases AI.mp hi with rfl|hi;exact pj;exact ps i hi⟩
theorem gy_ (ad:Nat->Addr):∀js:List Nat,aP_ (js.map fun j=>V.ref (ad j)) (js.map fun j=>Value.ref (ad j))
 |[]=> .nil
 |j::js=> .cons rfl (gy_ ad js)
theorem i2_ {H:Hp} (kk:Nat->List Int) (ad:Nat->Addr):∀js:List Nat,(∀j∈js,H (ad j)=some (.tup ((kk j).map V.int)))->Iss H ((js.map kk).map tI) (js.map fun j=>V.ref (ad j))
 |[],_=>ao_
 |j::js,h=>ai_ (h9_ (h j (by simp))) (i2_ kk ad js fun i hi=>h i (by simp [hi]))
theorem mq_ {prog:Program}{w:World}{h':Heap}{kk:Nat->List Int}{ad:Nat->Addr}{n:Nat}{es:Array (Int×Value)}{vs:List Value} (en:Ent prog w h' es) (mk:Made prog w kk ad n es)
  (hkey:∀j,j<n->IsTupleKey (intKind prog w) h' (kk j) (ad j)) (hp:vs.Perm (es.toList.map (·.2))):
  ∃js:List Nat,vs=js.map (fun j=>Value.ref (ad j))/\(∀j∈js,j<n)/\(js.map kk).Nodup/\∀j,j<n->kk j∈js.map kk:=by
 have vmem:∀v,v∈vs↔∃p g,es[p]? =some (g,v):=fun v=>by
  rw [hp.mem_iff,Al];constructor
  .rintro⟨⟨g,v'⟩,he,rfl⟩;obtain⟨p,hp,e⟩:=Array.mem_iff_getElem.mp (Array.mem_toList_iff.mp he);exact⟨p,g,by rw [Aa hp,e]⟩
  .rintro⟨p,g,e⟩;have hp:=cU_ e;rw [Aa hp,Au] at e;exact⟨(g,v),by rw [<-e];simp,rfl⟩
 obtain⟨js,ev,pj⟩:=c7_ (f:=fun j=>Value.ref (ad j)) (P:=fun j=>j<n/\∃p g,es[p]? =some (g,Value.ref (ad j))) vs fun v hv=>by
  obtain⟨p,g,e⟩:=(vmem v).mp hv;obtain⟨j,hj,e'⟩:=mk.from_ p _ e;simp only [BE] at e';obtain⟨_,rfl⟩:=e';exact⟨j,⟨hj,p,g,e⟩,rfl⟩
 have nd:vs.Nodup:=by
  rw [hp.nodup_iff];unfold List.Nodup;rw [List.pairwise_map,CO];intro i j hi hj hij e;rw [B1] at hi hj;obtain⟨k,b,e1,q1⟩:=en.ent i hi;obtain⟨k',b',e2,q2⟩:=en.ent j hj;have z1:es.toList[i].2=Value.ref b:=by
   rw [Aa hi,Au] at e1;simp [e1]
  have z2:es.toList[j].2=Value.ref b':=by
   rw [Aa hj,Au] at e2;simp [e2]
  rw [z1,z2,Bq] at e;subst e;have:=en.dis i j k b b _ _ e1 e2 q1 q1;lia
 refine⟨js,ev,fun j hj=>(pj j hj).1, ?_,fun j hj=> ?_⟩
 .rw [ev] at nd;unfold List.Nodup at nd⊢;rw [List.pairwise_map] at nd⊢;refine List.Pairwise.imp_of_mem (fun{a b} ha hb hne e=>hne ?_) nd;obtain⟨la,p,g,ea⟩:=pj a ha;obtain⟨lb,p',g',eb⟩:=pj b hb;have:=en.dis p p' (kk a) _ _ _ _ ea eb (hkey a la) (by rw [e];exact hkey b lb);subst this;rw [ea] at eb;simp only [Au,BE] at eb;exact eb.2
 .obtain⟨p,j',hj',ek,e⟩:=mk.all j hj;have:=(vmem _).mpr ⟨p,_,e⟩;rw [ev] at this;obtain⟨i,hi,ei⟩:=Al.mp this;simp only [Bq] at ei;have q1:=hkey i (pj i hi).1;rw [ei] at q1;have:=q1.inj (hkey j' hj');rw [<-ek,<-this];exact List.mem_map_of_mem hi
theorem oB_ {e:Expr}{ta:TA}{p p2 pos pos2:Pos} (hu:X.A.units+8<cLine) (hh:X.A.handled=none) (hg:Gl X "sorted") (hm:X.mg "sorted"=none) (hg2:Gl X "set") (hm2:X.mg "set"=none)
  (ha:PA X [e] ta) (he:starEach [e] X.env=(false,eval e X.env)::starEach [] X.env:=by rfl)
  (he2:starEach [Expr.Call (.Name "set" p2) [e] [] pos2] X.env=(false,eval (Expr.Call (.Name "set" p2) [e] [] pos2) X.env)::starEach [] X.env:=by rfl):
  PE X (.Call (.Name "sorted" p) [.Call (.Name "set" p2) [e] [] pos2] [] pos) (tCB rV_ ta):=by
 intro pins s σ H Q I h;refine B4 (cG_ I hg hm (by first|exact boot_sorted|rfl|ac_nf) ?_ (by decide) (by decide));refine Co ?_ he2 (by rfl);rw [he2];show wpAny _ _ (spliced ((false,eval (Expr.Call (.Name "set" p2) [e] [] pos2) X.env)::backTo pos (starEach [] X.env))) _ _ s;refine Cm ?_;refine B4 (cG_ I hg2 hm2 (by first|rfl|ac_nf) ?_ (by decide) (by decide));refine B' (thn (ha pos2 pins s σ H _ I h) fun us s1 ⟨vs,H1,I1,r1,q1⟩=> ?_) he (by rfl);obtain⟨v,xss,m,rfl,hv,hm',hne',hlen,q⟩:=q1;obtain⟨l,rs,rfl,hl,hi⟩:=b9_ hv;have hrs:rs.length=xss.length:=by rw [hi.length,A1]
 obtain⟨u,rfl,rx⟩:=fD_ r1;cases rx;obtain⟨its,r',pl,hz⟩:=I1.list (SqL.of (K:=X.K) hl);have ln:=r'.length;have g:∀i,∃a,i<xss.length->its[i]? =some (.ref a)/\rs[i]? =some (.ref a)/\H1 a=some (.tup ((xss.getD i []).map V.int)):=fun i=>by
  by_cases h:i<xss.length
  .have hr:i<rs.length:=by lia
   obtain⟨d,hd,h1⟩:=hi.of_get (A3 hr);rw [A6,A3 h] at hd;cases hd;obtain⟨a,ea,ha⟩:=cg_ h1;obtain⟨u,hu1,ru⟩:=r'.get (A3 hr);rw [ea] at ru;obtain rfl:u=Value.ref a:=ru;refine⟨a,fun _=>⟨hu1,by rw [A3 hr,ea], ?_⟩⟩;rw [A5,A3 h];exact ha
  .exact⟨0,fun c=>absurd c h⟩
 let ad:Nat->Addr:=fun i=>Classical.choose (g i)
 have hg:∀i,i<xss.length->its[i]? =some (.ref (ad i))/\rs[i]? =some (.ref (ad i))/\H1 (ad i)=some (.tup ((xss.getD i []).map V.int)):=fun i hi=>Classical.choose_spec (g i) hi;generalize ad=ad at hg;refine hm_ (kk:=fun i=>xss.getD i []) (ad:=ad) (items:=its.toArray) hh (by lia) pl.isList (by rw [AC];lia) (fun i hi=> ?_) fun h' tk es hS en mk hk=> ?_
 .rw [AC] at hi;have hg':=hg i (by lia);exact⟨by rw [List.getElem?_toArray];exact hg'.1,kk_ I1 (SqT.of hg'.2.2)⟩
 .have I2:Inv X pins σ H1 {s1 with heap:=h',toks:=tk}:=I1.kept fun b o e=>hk b o (AG e) e;refine A2 ?_;show wpAny _ _ (call (.builtin "sorted") [.ref s1.heap.objs.size]) _ _ {s1 with heap:=h',toks:=tk};obtain⟨ep,t,ho,tb,tl,tp,tr⟩:=hS;refine jx_ (ii_ (s:={s1 with heap:=h',toks:=tk}) (A:=X.A.in1) hh ho tb (by lia) tl tp fun h'' tk' vs hk' hsz hp=> ?_) fun vs s' g=>g;have hkey:∀j,j<its.toArray.size->IsTupleKey (intKind X.prog X.w) h' (xss.getD j []) (ad j):=fun j hj=>by
   rw [AC] at hj;exact kk_ I2 (SqT.of (hg j (by lia)).2.2)
  obtain⟨js,ev,lt,nd,all⟩:=mq_ en mk hkey hp;have I3:Inv X pins σ H1 {s1 with heap:=h'',toks:=tk'}:=I2.kept hk';have lt':∀j∈js,j<xss.length:=fun j hj=>by have:=lt j hj;rw [AC] at this;lia
  subst ev;have mem:∀z,z∈js.map (fun i=>xss.getD i [])↔z∈xss:=fun z=>by
   constructor
   .intro hz;obtain⟨j,hj,rfl⟩:=Al.mp hz;rw [A5,A3 (lt' j hj)];exact List.getElem_mem _
   .intro hz;obtain⟨j,hj,e⟩:=List.getElem_of_mem hz;have:=all j (by rw [AC];lia);rw [A5,A3 hj,e] at this;exact this
  have bound:(js.map fun i=>xss.getD i []).length<=xss.length:=by
   have e1:js.length=es.size:=by have:=hp.length_eq;simpa using this
   have e2:es.size<=its.length:=by have:=mk.size;simpa using this
   rw [A1];lia
  refine kp_ I3 (rs:=js.map fun j=>V.ref (ad j)) (xss:=js.map fun i=>xss.getD i []) (i2_ _ ad js fun j hj=>(hg j (lt' j hj)).2.2) (gy_ ad js) hm' (fun xs hx=>hne' xs ((mem xs).mp hx)) (by lia) (fun yss q' H' pm srt hq sm his=> ?_) X.A;exact q yss q' H' (pm.nodup_iff.mpr nd) (fun z=>by rw [pm.mem_iff];exact mem z) srt hq sm his
end
end L2
namespace L2
open PySem PySem.Spec PyProof.Rows PySem.W
section
variable {prog:Program}{w:World}{A:Around}{E:Value->Shared->Prop}{s:Shared}
theorem m9_ {d:Addr}{o:Obj}{es:Array DictEntry}{ep:Nat}{Q:Value->Shared->Prop} (hd:(d==sysModules)=false) (ho:s.heap.get? d=some o) (hc:o.ExactDict) (hdat:o.data= .dict es ep)
  (hQ:Q (.ref s.heap.objs.size) {s with heap:=s.heap.push {cls:= .type "dict_keyiterator",data:= .fields #[.ref d, .int 0 0, .int es.size 0, .int ep 0]}}):
  wpAny (model prog w) A (pyIter (.ref d)) Q E s:=by
 have hT:s.TypeIs (.ref d) "dict":=⟨o,ho,hc.1⟩;refine wpAny_pyIter_slot hT PySem.F.slot_dict_iter (AY PySem.F.slot_dict_iter hT PySem.F.entry_dict_iter ?_ (PySem.F.args_dict_iter_1 _));unfold Builtin.«dict.__iter__»;refine A0 ?_;unfold Builtin.Dict.dictSlotNone;refine A0 (wpAny_notOrdered_dict hT ?_);show wpAny _ _ (pure (Value.ref d)) _ _ s;refine A2 ?_;show wpAny _ _ (Builtin.Dict.showsAll d>>=_) _ _ s;unfold Builtin.Dict.showsAll;rw [A9 (by rw [hd];exact AM)];refine A0 (A2 ?_);refine A0 (CN ho hdat ?_);refine A0 (Ci ho hdat ?_);refine A0 (Aj (A2 ⟨_,rfl,"dict_keyiterator",_,⟨_,AE _ rfl,rfl⟩,BV.lookup, ?_⟩));simpa [rawInt] using hQ
theorem na_ {it d:Addr}{o:Obj}{es:Array DictEntry}{i ep:Nat}{e:DictEntry}{Q:Option Value->Shared->Prop} (hit:s.heap.IsKeyIter it d i es.size ep) (hod:s.heap.get? d=some o) (hdd:o.data= .dict es ep) (he:es[i]? =some e)
  (hQ:∀h',h'.IsKeyIter it d (i+1) es.size ep->Heap.SameBut it s.heap h'->Q (some e.key) {s with heap:=h'}):wpAny (model prog w) A (pyNext (.ref it)) Q E s:=by
 obtain⟨oi,ho,hc,hd⟩:=id hit;have hlt:i<es.size:=(Br.mp he).1;unfold pyNext;refine A0 (C9 (Ap (name:=Str.ofString "__next__") hit.typeIs BV (AY BV hit.typeIs PySem.F.entry_dict_keyiterator_next ?_ (PySem.F.args_dict_keyiterator_next_1 _))));refine A0 (A2 ?_);refine A0 ?_;refine A0 ?_;first|refine A0 (CG hit.typeIs (A2 ?_));skip|refine A0 (Cc hit.typeIs (A2 ?_));skip
 refine A0 (Cr ho hd ?_);have hown:Builtin.Dict_items.ownsTuple "dict_keyiterator"=false:=by decide
 simp only [hown,AF,Ah];show wpAny _ _ (if(Value.ref d==Value.none)=true then _ else _) _ _ s;rw [A9 (show¬((Value.ref d==Value.none)=true) from AM)];refine A0 (A2 ?_);refine A0 (CN hod hdd ?_);rw [A9 (by simp)];refine A0 (A2 ?_);refine A0 (Ci hod hdd ?_);rw [A9 (by simp)];refine A2 ?_;simp only [show¬((i:Int)<0) from by lia,Ah,Ai,he];refine A0 ?_;first|refine A0 (CG hit.typeIs (A2 ?_));skip|refine A0 (Cc hit.typeIs (A2 ?_));skip
 refine A0 (wpAny_isOneOf_keyiter hit.typeIs ?_);show wpAny _ _ (setField (.ref it) 1 (rawInt ((i:Int)+1))>>=_) _ _ s;refine A0 (By ho hd (by simp) ?_);have st':(s.heap.update it (Obj.mapFields (·.setIfInBounds 1 (rawInt ((i:Int)+1))))).IsKeyIter it d (i+1) es.size ep:=⟨_,C3 _ ho (D0 (Bg hd _)),(Obj.cls_mapFields ..).trans hc,by rw [Bg hd];simp [rawInt]⟩;refine A0 (An ?_);refine A0 (wpAny_isOneOf_keyiter (s:={s with heap:=s.heap.update it (Obj.mapFields (·.setIfInBounds 1 (rawInt ((i:Int)+1))))}) st'.typeIs ?_);show wpAny _ _ (pure e.key) _ _ _;exact A2 (A2 ⟨_,rfl,A2 (hQ _ st' (B0 ..))⟩)
theorem pb_ {it d:Addr}{o:Obj}{es:Array DictEntry}{i ep:Nat}{Q:Option Value->Shared->Prop} (hh:A.handled=none) (hit:s.heap.IsKeyIter it d i es.size ep) (hod:s.heap.get? d=some o) (hdd:o.data= .dict es ep) (he:es.size<=i)
  (hQ:∀h',Heap.ExtBut it s.heap h'->Q none {s with heap:=h'}):wpAny (model prog w) A (pyNext (.ref it)) Q E s:=by
 obtain⟨oi,ho,hc,hd⟩:=id hit;unfold pyNext;refine A0 (C9 (Ap (name:=Str.ofString "__next__") hit.typeIs BV (AY BV hit.typeIs PySem.F.entry_dict_keyiterator_next ?_ (PySem.F.args_dict_keyiterator_next_1 _))));refine A0 (A2 ?_);refine A0 ?_;refine A0 ?_;first|refine A0 (CG hit.typeIs (A2 ?_));skip|refine A0 (Cc hit.typeIs (A2 ?_));skip
 refine A0 (Cr ho hd ?_);have hown:Builtin.Dict_items.ownsTuple "dict_keyiterator"=false:=by decide
 simp only [hown,AF,Ah];show wpAny _ _ (if(Value.ref d==Value.none)=true then _ else _) _ _ s;rw [A9 (show¬((Value.ref d==Value.none)=true) from AM)];refine A0 (A2 ?_);refine A0 (CN hod hdd ?_);rw [A9 (by simp)];refine A0 (A2 ?_);refine A0 (Ci hod hdd ?_);rw [A9 (by simp)];refine A2 ?_;simp only [show¬((i:Int)<0) from by lia,Ah,Ai,BX he];refine A0 ?_;first|refine A0 (CG hit.typeIs (A2 ?_));skip|refine A0 (Cc hit.typeIs (A2 ?_));skip
 show wpAny _ _ (setField (.ref it) 0 .none>>=_) _ _ s;refine A0 (By ho hd (by simp) ?_);show wpAny _ _ (newExc (.type "StopIteration") []>>=_) _ _ _;refine A0 ?_;simp only [newExc,newTuple];refine A0 (Aj ?_ (by size_fits));refine A0 (m:=firstArgMember _ _) (D9 (a:=Value.none) (by first|rfl|(simp only [firstArgMember];rfl)) ?_);refine Aj ?_ (by size_fits);simp only [raiseNew];refine A0 (wpAny_handled ?_);rw [show A.in1.handled=none from hh];refine A0 (A2 (wpAny_throw ?_));refine A0 (Bt (T:="StopIteration") (b:=true) ⟨_,AE _ rfl,rfl⟩ isSubtype_stop ?_);exact A2 (hQ _ (((B0 ..).extBut.push _).push _))
end
section
variable {prog:Program}{w:World}{A:Around}{E:Value->Shared->Prop}{s:Shared}
theorem o9_ {d:Addr}{o:Obj}{Q:Value->Shared->Prop} (hd:(d==sysModules)=false) (ho:s.heap.get? d=some o) (hc:o.ExactDict)
  (hQ:Q (.ref s.heap.objs.size) {s with heap:=s.heap.push {cls:= .type "dict_values",data:= .fields #[.ref d]}}):wpAny (model prog w) A (call (.builtin "dict.values") [.ref d]) Q E s:=by
 have hT:s.TypeIs (.ref d) "dict":=⟨o,ho,hc.1⟩;refine AY PySem.F.slot_dict_values hT PySem.F.entry_dict_values ?_ (PySem.F.args_dict_values_1 _);refine A0 ?_;unfold Builtin.Dict.noArgs;refine A0 (wpAny_notOrdered_dict hT ?_);show wpAny _ _ (pure d) _ _ s;refine A2 ?_;show wpAny _ _ (Builtin.Dict.showsAll d>>=_) _ _ s;unfold Builtin.Dict.showsAll;rw [A9 (by rw [hd];exact AM)];refine A0 (A2 ?_);exact A0 (Aj (A2 ⟨_,rfl,hQ⟩))
theorem o7_ {v d:Addr}{o:Obj}{es:Array DictEntry}{ep:Nat}{Q:Value->Shared->Prop} (hv:s.heap.IsValuesView v d) (ho:s.heap.get? d=some o) (hdat:o.data= .dict es ep)
  (hQ:Q (.ref s.heap.objs.size) {s with heap:=s.heap.push {cls:= .type "dict_valueiterator",data:= .fields #[.ref d, .int 0 0, .int es.size 0, .int ep 0]}}):
  wpAny (model prog w) A (pyIter (.ref v)) Q E s:=by
 obtain⟨ov,hov,hcv,hdv⟩:=id hv;refine wpAny_pyIter_slot hv.typeIs PySem.F.slot_dict_values_iter (AY PySem.F.slot_dict_values_iter hv.typeIs PySem.F.entry_dict_values_iter ?_ (PySem.F.args_dict_values_iter_1 _));unfold Builtin.«dict_values.__iter__»;refine A0 (A2 ?_);refine A0 ?_;unfold Builtin.Dict_items.dictOf;refine A0 (BU hov hdv (x:= .ref d) rfl (A2 ?_));refine A0 ?_;unfold Builtin.Dict_items.newIterator;refine A0 (CN ho hdat ?_);refine A0 (Ci ho hdat ?_);have hown:Builtin.Dict_items.ownsTuple "dict_valueiterator"=false:=by decide
 simp only [hown,AF,Ah];refine Aj (A2 ⟨_,rfl,"dict_valueiterator",_,⟨_,AE _ rfl,rfl⟩,BH.lookup, ?_⟩);simpa [rawInt] using hQ
theorem o8_ {it d:Addr}{o:Obj}{es:Array DictEntry}{i ep:Nat}{e:DictEntry}{Q:Option Value->Shared->Prop} (hit:s.heap.IsValIter it d i es.size ep) (hod:s.heap.get? d=some o) (hdd:o.data= .dict es ep) (he:es[i]? =some e)
  (hQ:∀h',h'.IsValIter it d (i+1) es.size ep->Heap.SameBut it s.heap h'->Q (some e.val) {s with heap:=h'}):wpAny (model prog w) A (pyNext (.ref it)) Q E s:=by
 obtain⟨oi,ho,hc,hd⟩:=id hit;have hlt:i<es.size:=(Br.mp he).1;unfold pyNext;refine A0 (C9 (Ap (name:=Str.ofString "__next__") hit.typeIs BH (AY BH hit.typeIs PySem.F.entry_dict_valueiterator_next ?_ (PySem.F.args_dict_valueiterator_next_1 _))));refine A0 (A2 ?_);refine A0 ?_;refine A0 ?_;first|refine A0 (CF hit.typeIs (A2 ?_));skip|refine A0 (Cb hit.typeIs (A2 ?_));skip
 refine A0 (Cr ho hd ?_);have hown:Builtin.Dict_items.ownsTuple "dict_valueiterator"=false:=by decide
 simp only [hown,AF,Ah];show wpAny _ _ (if(Value.ref d==Value.none)=true then _ else _) _ _ s;rw [A9 (show¬((Value.ref d==Value.none)=true) from AM)];refine A0 (A2 ?_);refine A0 (CN hod hdd ?_);rw [A9 (by simp)];refine A0 (A2 ?_);refine A0 (Ci hod hdd ?_);rw [A9 (by simp)];refine A2 ?_;simp only [show¬((i:Int)<0) from by lia,Ah,Ai,he];refine A0 ?_;first|refine A0 (CF hit.typeIs (A2 ?_));skip|refine A0 (Cb hit.typeIs (A2 ?_));skip
 refine A0 (wpAny_isOneOf_valiter hit.typeIs ?_);show wpAny _ _ (setField (.ref it) 1 (rawInt ((i:Int)+1))>>=_) _ _ s;refine A0 (By ho hd (by simp) ?_);have st':(s.heap.update it (Obj.mapFields (·.setIfInBounds 1 (rawInt ((i:Int)+1))))).IsValIter it d (i+1) es.size ep:=⟨_,C3 _ ho (D0 (Bg hd _)),(Obj.cls_mapFields ..).trans hc,by rw [Bg hd];simp [rawInt]⟩;refine A0 (An ?_);refine A0 (wpAny_isOneOf_valiter (s:={s with heap:=s.heap.update it (Obj.mapFields (·.setIfInBounds 1 (rawInt ((i:Int)+1))))}) st'.typeIs ?_);refine A0 (wpAny_isOneOf_valiter (s:={s with heap:=s.heap.update it (Obj.mapFields (·.setIfInBounds 1 (rawInt ((i:Int)+1))))}) st'.typeIs ?_);show wpAny _ _ (pure e.val) _ _ _;exact A2 (A2 ⟨_,rfl,A2 (hQ _ st' (B0 ..))⟩)
theorem qJ_ {it d:Addr}{o:Obj}{es:Array DictEntry}{i ep:Nat}{Q:Option Value->Shared->Prop} (hh:A.handled=none) (hit:s.heap.IsValIter it d i es.size ep) (hod:s.heap.get? d=some o) (hdd:o.data= .dict es ep) (he:es.size<=i)
  (hQ:∀h',Heap.ExtBut it s.heap h'->Q none {s with heap:=h'}):wpAny (model prog w) A (pyNext (.ref it)) Q E s:=by
 obtain⟨oi,ho,hc,hd⟩:=id hit;unfold pyNext;refine A0 (C9 (Ap (name:=Str.ofString "__next__") hit.typeIs BH (AY BH hit.typeIs PySem.F.entry_dict_valueiterator_next ?_ (PySem.F.args_dict_valueiterator_next_1 _))));refine A0 (A2 ?_);refine A0 ?_;refine A0 ?_;first|refine A0 (CF hit.typeIs (A2 ?_));skip|refine A0 (Cb hit.typeIs (A2 ?_));skip
 refine A0 (Cr ho hd ?_);have hown:Builtin.Dict_items.ownsTuple "dict_valueiterator"=false:=by decide
 simp only [hown,AF,Ah];show wpAny _ _ (if(Value.ref d==Value.none)=true then _ else _) _ _ s;rw [A9 (show¬((Value.ref d==Value.none)=true) from AM)];refine A0 (A2 ?_);refine A0 (CN hod hdd ?_);rw [A9 (by simp)];refine A0 (A2 ?_);refine A0 (Ci hod hdd ?_);rw [A9 (by simp)];refine A2 ?_;simp only [show¬((i:Int)<0) from by lia,Ah,Ai,BX he];refine A0 ?_;first|refine A0 (CF hit.typeIs (A2 ?_));skip|refine A0 (Cb hit.typeIs (A2 ?_));skip
 show wpAny _ _ (setField (.ref it) 0 .none>>=_) _ _ s;refine A0 (By ho hd (by simp) ?_);show wpAny _ _ (newExc (.type "StopIteration") []>>=_) _ _ _;refine A0 ?_;simp only [newExc,newTuple];refine A0 (Aj ?_ (by size_fits));refine A0 (m:=firstArgMember _ _) (D9 (a:=Value.none) (by first|rfl|(simp only [firstArgMember];rfl)) ?_);refine Aj ?_ (by size_fits);simp only [raiseNew];refine A0 (wpAny_handled ?_);rw [show A.in1.handled=none from hh];refine A0 (A2 (wpAny_throw ?_));refine A0 (Bt (T:="StopIteration") (b:=true) ⟨_,AE _ rfl,rfl⟩ isSubtype_stop ?_);exact A2 (hQ _ (((B0 ..).extBut.push _).push _))
theorem kc_ (hh:A.handled=none) (I d:Addr) (hne:d≠I) {o:Obj}{es:Array DictEntry}{ep:Nat} (hdat:o.data= .dict es ep):
  Walks prog w A I [I,d] [I] es.size (fun i v=>∃e,es[i]? =some e/\v=e.val) (fun i h=>h.IsValIter I d i es.size ep/\h.get? d=some o) where
 sub:=fun b hb=>by simp at hb;simp [hb]
 frame:=fun _ _ _ st hk=>⟨st.1.at fun o e=>hk I (by simp) o e,hk d (by simp) _ st.2⟩
 item:=fun i s Q E hi st hQ=>o8_ st.1 st.2 hdat (Aa hi) fun h' hit' hs'=>hQ _ h' s.toks ⟨_,Aa hi,rfl⟩ ⟨hit',hs'.extBut d _ hne st.2⟩ fun b o hb e=>hs'.extBut b o (fun h=>hb (by simp [h])) e
 done:=fun s Q E st hQ=>qJ_ hh st.1 st.2 hdat (A7 _) fun h' he'=>hQ h' s.toks fun b o hb e=>he' b o (fun h=>hb (by simp [h])) e
 self:=fun _ _ _ _ st hQ=>wpAny_pyIter_valiter st.1 hQ
theorem kM_ (ns:List Int):∀k,k<=ns.length->preSum (fun i=>ns.getD i 0) k=(ns.take k).sum
 |0,_=>by simp [preSum]
 |k+1,h=>by
  have hk:k<ns.length:=by lia
  have g:ns.getD k 0=ns[k]:=by simp [List.getD,hk]
  rw [preSum,kM_ ns k (by lia),AW,A3 hk,Bi];show _+ns.getD k 0=_+[ns[k]].sum;rw [g];simp
end
theorem dH_ {α β:Type}{R:α->β->Prop}:∀{xs:List α}{ys:List β}{i:Nat}{x:α},Paired R xs ys->xs[i]? =some x->∃y,ys[i]? =some y/\R x y
 |_,_,i,x, .nil,h=>by simp at h
 |_,_,0,x, .cons r _,h=>by simp at h;subst h;exact⟨_,rfl,r⟩
 |_,_,i+1,x, .cons _ t,h=>by simp at h;obtain⟨y,e,r⟩:=dH_ t h;exact⟨y,by simpa using e,r⟩
def Itk (d:Addr) (o:Obj) (kvs:List (List Key×V)):It:=
 ⟨fun i H=>H d=some (.frz o (.dT kvs))/\i<kvs.length,fun i H x H'=>H'=H/\∃b k v,x= .ref b/\kvs[i]? =some (k,v)/\H b=some (.tup (k.map kV)),fun i H=>H d=some (.frz o (.dT kvs))/\kvs.length<=i⟩
def sb_ (td:TE):TI:=fun σ H R=>td σ H fun x H1=>∃(d:Addr) (kvs:List (List Key×V)),x= .ref d/\Rd H1 d (.dT kvs)/\∀(o:Obj) (H2:Hp),H2 d=some (.frz o (.dT kvs))->(∀b,b≠d->H2 b=H1 b)->R (Itk d o kvs) H2
theorem ki_ {P:Program}{w:World}{K:W.Frag}{tg:Expr} (d it:Addr) (o:Obj) (kvs:List (List Key×V)) (ep:Nat) (hep:∀es' ep',o.data= .dict es' ep'->ep'=ep):Turn P w K tg (Itk d o kvs) [it] it (fun i h=>h.IsKeyIter it d i kvs.length ep) where
 mem:=by simp
 obj:=fun i h st b hb=>by
  have e:b=it:=by simpa using hb
  subst e;obtain⟨o,e,c,d⟩:=st;exact⟨o,e,fun v z=>by rw [d] at z;cases z⟩
 keep:=fun i h h' st k=>st.at fun o e=>k it (by simp) o e
 item:=by
  intro X hP hw hK hc i pins s σ H E I hf st hg;subst hP hw hK;obtain⟨hq,hi⟩:=hg;obtain⟨ho,z,y,xs,rel,o',es,ep',h1,h2,h3,h4,h5⟩:=(show aH_ X.prog X.w H s.heap d (.frz o (.dT kvs)) from I.hok d _ hq);obtain rfl:o=o':=Ac (ho.symm.trans h1);obtain rfl:ep'=ep:=hep _ _ h3;have hx:kvs[i]? =some kvs[i]:=A3 hi;obtain⟨q,hq1,e1,e2,e3⟩:=dH_ rel hx;have hsz:es.size=kvs.length:=by rw [<-B1,h4,A1,<-Bs rel]
  have he:es[i]? =some (entryOfKey (tupleKind (a3_ X.prog X.w)) q):=by rw [<-CD,h4,A6,hq1];rfl
  obtain⟨f0,f1,f2,f3,f4,f5⟩:=hf it (by simp);rw [<-hsz] at st;refine na_ st ho h3 he fun h' st' sb=> ?_;have I1:Inv X pins σ H {s with heap:=h'}:=I.turned (t':=s.toks) (fun b o hb e=>(sb.2 b hb).trans e) f0 f1 f3 f4 f5;obtain⟨oo,e,c,d'⟩:=id st';rw [hsz] at st';exact⟨_,rfl,go_of (s:={s with heap:=h'}) e c d' (by decide) ⟨.ref q.2.1,H,I1,rfl,⟨rfl,q.2.1,kvs[i].1,kvs[i].2,rfl,hx,e2⟩,st',fun b hb=>(hf b hb).1⟩⟩
 done:=by
  intro X hP hw hK hc i pins s σ H E I hf st hg;subst hP hw hK;obtain⟨hq,hi⟩:=hg;obtain⟨ho,z,y,xs,rel,o',es,ep',h1,h2,h3,h4,h5⟩:=(show aH_ X.prog X.w H s.heap d (.frz o (.dT kvs)) from I.hok d _ hq);obtain rfl:o=o':=Ac (ho.symm.trans h1);obtain rfl:ep'=ep:=hep _ _ h3;have hsz:es.size=kvs.length:=by rw [<-B1,h4,A1,<-Bs rel]
  obtain⟨f0,f1,f2,f3,f4,f5⟩:=hf it (by simp);rw [<-hsz] at st;exact pb_ (I.ok.hd hc) st ho h3 (by lia) fun h' eb=>⟨rfl,I.turned (t':=s.toks) (fun b o hb e=>eb b o hb e) f0 f1 f3 f4 f5⟩
 self:=fun _ _ _ _ _ st h=>wpAny_pyIter_keyiter st h
section
variable {X:Cx}{tg:Expr}
theorem pa_ {P:Program}{w:World}{H H':Hp}{h:Heap}{d:Addr}{kvs:List (List Key×V)} (q:aH_ P w H h d (.dT kvs)) (k:∀b ys,H b=some (.tup ys)->H' b=some (.tup ys)):aH_ P w H' h d (.dT kvs):=by
 obtain⟨z,y,xs,rel,r⟩:=q;exact⟨z,y,xs,KT.keeps rel fun c ys ec=>k c ys ec,r⟩
theorem oz_ {l:Expr}{tl:TE} (hl:PE X l tl):PI X tg l (sb_ tl):=by
 intro pins s σ H R I h;refine thn (hl pins s σ H _ I h) fun v s1 ⟨x,H1,I1,r1,q1⟩=> ?_;obtain⟨d,kvs,rfl,hq,q⟩:=q1;cases r1;have hob:aH_ X.prog X.w H1 s1.heap d (.dT kvs):=mv_ I1.hok hq;obtain⟨z,y,xs,rel,o,es,ep,h1,h2,h3,h4,h5⟩:=id hob;have hsz:es.size=kvs.length:=by rw [<-B1,h4,A1,<-Bs rel]
 obtain⟨H2,I2,e2,k2⟩:∃H2,Inv X pins σ H2 s1/\H2 d=some (.frz o (.dT kvs))/\∀b,b≠d->H2 b=H1 b:=by
  rcases hq with hq|⟨o',hq⟩
  .exact⟨_,eX_ (t':=s1.toks) I1 (by rw [hq];exact True.intro) (Heap.SameBut.refl _ _) ⟨o,h1⟩ (show aH_ X.prog X.w (upd H1 d (.frz o (.dT kvs))) s1.heap d (.frz o (.dT kvs)) from⟨h1,pa_ hob fun b ys e=>by rw [ak_ (oQ_ e hq (fun z=>nomatch z))];exact e⟩),ae_,fun b hb=>ak_ hb⟩
  .obtain⟨ho',_⟩:=(show aH_ X.prog X.w H1 s1.heap d (.frz o' (.dT kvs)) from I1.hok d _ hq);obtain rfl:o'=o:=Ac (ho'.symm.trans h1);exact⟨H1,I1,hq,fun _ _=>rfl⟩
 refine m9_ y h1 h2 h3 ?_;rw [hsz];refine⟨s1.heap.objs.size,[s1.heap.objs.size],_,_,_,rfl,I2.kept (t':=s1.toks) fun b o e=>A4 _ e,ki_ d _ o kvs ep (fun es' ep' e=>by rw [h3] at e;cases e;rfl),⟨_,AE _ rfl,rfl,rfl⟩,fun b hb=> ?_,q o H2 e2 k2⟩;have e:b=s1.heap.objs.size:=by simpa using hb
 subst e;exact I2.fpOk (A7 _) (I2.hok.fresh (A7 _))
theorem m5_ {d:Addr}{o:Obj}{kvs:List (List Key×V)}{g:TG}{tb:TS}{D:Ends}{σ:St}{H:Hp} (Pv:Nat->St->Hp->Prop) (h0:Pv 0 σ H) (hl:∀i σ H,i<=kvs.length->Pv i σ H->H d=some (.frz o (.dT kvs)))
  (hs:∀i k v b σ H,kvs[i]? =some (k,v)->Pv i σ H->H b=some (.tup (k.map kV))->g (.ref b) σ H fun σ2 H2=>tb {D with nx:=Pv (i+1),ct:=Pv (i+1),bk:=D.nx} σ2 H2) (hd:∀σ H,Pv kvs.length σ H->D.nx σ H):
  ∃Wq:Nat->Nat->St->Hp->Prop,(∃m,Wq 0 m σ H)/\∀i m σ H,Wq i m σ H->
   ((Itk d o kvs).stop i H/\D.nx σ H)\/((Itk d o kvs).go i H/\∃N:St->Hp->Prop,(∀σ' H',N σ' H'->∃m',m'<m/\Wq (i+1) m' σ' H')/\∀x H',(Itk d o kvs).yld i H x H'->g x σ H' fun σ2 H2=>tb {D with nx:=N,ct:=N,bk:=D.nx} σ2 H2):=by
 refine⟨fun i m σ H=>m=kvs.length-i/\i<=kvs.length/\Pv i σ H,⟨kvs.length,by simp,AK _,h0⟩, ?_⟩;rintro i m σ H ⟨rfl,hi,p⟩;have q:=hl i σ H hi p;by_cases hlt:i<kvs.length
 .refine .inr ⟨⟨q,hlt⟩,Pv (i+1),fun σ' H' p'=>⟨kvs.length-(i+1),by lia,rfl,hlt,p'⟩, ?_⟩;rintro x H' ⟨rfl,b,k,v,rfl,e,hb⟩;exact hs i k v b σ _ e p hb
 .obtain rfl:i=kvs.length:=by lia
  exact .inl ⟨⟨q,A7 _⟩,hd σ H p⟩
def pE_ (tk tv:TE):TE:=fun σ H Q=>∀p,H p=none->tk σ (upd H p (.dT [])) fun x H1=>tv σ H1 fun y H2=>H2 p=some (.dT [])/\∃k b,x= .ref b/\H2 b=some (.tup (k.map kV))/\Q (.ref p) (upd H2 p (.dT (eb_ [] k y)))
theorem mB_ {ek ev:Expr}{tk tv:TE}{pos:Pos} (hu:X.A.units+1<cLine) (hk:PE X ek tk) (hv:PE X ev tv):PE X (.Dict [some ek] [ev] pos) (pE_ tk tv):=by
 intro pins s σ H Q I q;have hn:=I.hok.fresh (A7 s.heap.objs.size);have I1:=I.laid (a:=s.heap.objs.size) (o:= .dT []) (h':=s.heap.push {cls:= .type "dict",data:= .dict #[]}) (t':=s.toks) (fun _ _ q=>A4 _ q) (A7 _) (ji_ s.heap I.big);rw [arm_eval_Dict,zip_pairTrees [some ek] [ev] X.env pos rfl rfl,dictDisplay_pairs (pairTrees [some ek] [ev] X.env pos) (by intro z;cases z) (show 1<17 by decide)];refine A0 (wpAny_standAt (A0 ?_));unfold subDict;refine A0 (wpAny_alloc ?_);refine A0 (An ?_);rw [AA (show(pairTrees [some ek] [ev] X.env pos).length<=15 from(by decide:1<=15))];refine A0 (pairTrees_cons_walk (thn (hk pins _ σ _ _ I1 (q _ hn)) fun u s1 ⟨x,H1,I2,rx,q1⟩=>thn (hv pins s1 σ H1 _ I2 q1) fun w2 s2 ⟨y,H2,I3,ry,e,k,b,ex,eb,q2⟩=>pairTrees_nil_walk ?_));subst ex;cases (show u=Value.ref b from rx);obtain⟨z,hd,xs,rel,dd⟩:=qK_ I3.hok e;cases rel;refine wpAny_holding (wpAny_bind ?_);rw [List.forIn_cons];dsimp only;refine A0 (A0 (wpAny_dictSet_heap (knd:=tupleKind (a3_ X.prog X.w)) (show X.A.units<cLine by lia) (g5_ I3.hok eb) dd (fun h' dd' hs=>A2 ?_) (AK _)));dsimp only;rw [List.forIn_nil];refine wpAny_pure (wpAny_pure (wpAny_pure (wpAny_pure ?_)));obtain⟨o,es,ep,hq,h2,h3,h4,_,h5⟩:=dd';refine⟨.ref s.heap.objs.size,_,eX_ I3 (by rw [e];exact True.intro) hs ⟨o,hq⟩ (show aH_ X.prog X.w (upd H2 s.heap.objs.size (.dT (eb_ [] k y))) h' s.heap.objs.size (.dT (eb_ [] k y)) from⟨(by show 1<=sizeLine;decide),hd,_,KT.keeps (KT.put .nil k eb ry) fun c ys ec=> ?_,o,es,ep,hq,h2,h3,h4,h5⟩),rfl,q2⟩;rw [ak_ (oQ_ ec e (fun z=>nomatch z))];exact ec
def rk_ (td:TE):TE:=fun σ H Q=>td σ H fun x H1=>∃(d:Addr) (kvs:List (List Key×V)) (ns:List Int),x= .ref d/\Rd H1 d (.dT kvs)/\kvs.map (·.2)=ns.map V.int/\Q (.int ns.sum) H1
theorem oA_ {e:Expr}{td:TE}{p apos cpos pos:Pos} (hc:X.calm=true) (hg:Gl X "sum") (hm:X.mg "sum"=none) (he:PE X e td)
  (he2:starEach [Expr.Call (.Attribute e "values" apos) [] [] cpos] X.env=(false,eval (Expr.Call (.Attribute e "values" apos) [] [] cpos) X.env)::starEach [] X.env:=by rfl)
  (hbase:attributeBase e "values" X.env (eval e X.env)=eval e X.env:=by rfl) (hline:(apos.endLine==cpos.line)=true:=by rfl):
  PE X (.Call (.Name "sum" p) [.Call (.Attribute e "values" apos) [] [] cpos] [] pos) (rk_ td):=by
 intro pins s σ H Q I h;refine B4 (cG_ I hg hm (by first|exact boot_sum|rfl|ac_nf) ?_ (by decide) (by decide));refine Co ?_ he2 (by rfl);rw [he2];show wpAny _ _ (spliced ((false,eval (Expr.Call (.Attribute e "values" apos) [] [] cpos) X.env)::backTo pos (starEach [] X.env))) _ _ s;refine Cm ?_;refine wpAny_Call_method0_late hbase hline (thn (he pins s σ H _ I h) fun v s1 ⟨x,H1,I1,r1,q1⟩=> ?_);obtain⟨d,kvs,ns,rfl,hrd,hns,q⟩:=q1;cases r1;obtain⟨hT,hdi,hsys⟩:=nI_ I1 (.inr ⟨kvs,hrd⟩);obtain⟨z,y,xs,rel,o,es,ep,h1,h2,h3,h4,h5⟩:=(show aH_ X.prog X.w H1 s1.heap d (.dT kvs) from mv_ I1.hok hrd);refine⟨"dict","dict.values",PySem.F.plainAttrs_dict,PySem.F.slot_dict_values,PySem.F.type_dict_values,hT,hdi,Cw rfl (PySem.evalArgs_none (o9_ hsys h1 h2 (A2 ?_)))⟩;show wpAny _ _ (call (.builtin "sum") [.ref s1.heap.objs.size]) _ _ _;have h1':(s1.heap.push {cls:= .type "dict_values",data:= .fields #[.ref d]}).get? d=some o:=A4 _ h1;have hdl:d<s1.heap.objs.size:=AG h1;have hsz:es.size=kvs.length:=by rw [<-B1,h4,A1,<-Bs rel]
 have hnl:ns.length=kvs.length:=by have:=Be List.length hns;simpa using this.symm
 refine call_sum_walkAnyS (o7_ (s:={s1 with heap:=s1.heap.push {cls:= .type "dict_values",data:= .fields #[.ref d]}}) ⟨_,AE _ rfl,rfl,rfl⟩ h1' h3 ?_);refine⟨_,_,_,_,_,_,_,fun i=>ns.getD i 0,rfl,(kc_ (A:=X.A.in1) (I.ok.hd hc) (s1.heap.push {cls:= .type "dict_values",data:= .fields #[.ref d]}).objs.size d (by rw [Ar];exact AJ (AV hdl)) h3).toS,⟨⟨_,AE _ rfl,rfl,rfl⟩,A4 _ h1'⟩, ?_, ?_, ?_⟩
 .intro b hb;simp only [AI,Am,Bj] at hb;rcases hb with rfl|rfl
  .show _<(Heap.push (s1.heap.push _) _).objs.size;rw [Ar (s1.heap.push _)];exact BF _
  .show _<(Heap.push (s1.heap.push _) _).objs.size;rw [Ar,Ar];exact AV (AV hdl)
 .rintro i v ⟨e,hei,rfl⟩;rw [<-CD,h4,A6] at hei;obtain⟨q',hq',rfl⟩:=A8.mp hei;have hi:i<kvs.length:=by rw [Bs rel];exact(AD.mp hq').1
  obtain⟨q2,hq2,e1,e2,e3⟩:=dH_ rel (A3 hi);rw [hq'] at hq2;cases hq2;have:kvs[i].2=V.int (ns.getD i 0):=by
   have z1:(kvs.map (·.2))[i]? =some kvs[i].2:=by rw [A6,A3 hi];rfl
   rw [hns,A6,A3 (by lia)] at z1;simp only [Option.map_some,Au] at z1;rw [<-z1,A5,A3 (by lia)];rfl
  rw [this] at e3;exact e3
 .intro s' t' hm';obtain⟨h',g',d',tk',os'⟩:=s';have eg:g'=s1.gens:=hm'.gens;have ed:d'=s1.drawn:=hm'.drawn;have eo:os'=s1.os:=hm'.os;subst eg;subst ed;subst eo;have es:preSum (fun i=>ns.getD i 0) es.size=ns.sum:=by rw [hsz,<-hnl,kM_ ns ns.length (A7 _),AT]
  rw [es];refine⟨.int ns.sum,H1,I1.kept fun b o e=>hm'.heap b o (fun hb=> ?_) (A4 _ (A4 _ e)),⟨t',rfl⟩,q⟩;simp only [AI,Am,Bj] at hb;have:=AG e;rw [hb,Ar] at this;exact absurd this (Nat.not_lt.mpr (Cs _))
end
end L2
namespace L2
open PySem PySem.Spec PyProof.Rows
section
variable {X:Cx}
theorem hW_:OpR X (binaryOp .Add) (fun x y H Q=>∃xs ys,Is H (.t xs) x/\Is H (.t ys) y/\xs.length+ys.length<=sizeLine/\∀v H2,al_ H H2->Is H2 (.t (xs++ys)) v->Q v H2):=by
 intro pins s σ H x y v u Q I rx ry h;obtain⟨xs,ys,hx,hy,hz,q⟩:=h;obtain⟨a,vs,rfl,ha,ra⟩:=fV_ hx;obtain⟨b,ws,rfl,hb,rb⟩:=fV_ hy;have l1:=ra.length;have l2:=rb.length;by_cases h1:vs=[]
 .subst h1;have hx0:xs=[]:=Bh.mp (by rw [<-l1];rfl);subst hx0;cases rx;cases ry;obtain⟨its,r1,p1,_⟩:=I.tuple (SqT.of (K:=X.K) ha);obtain⟨its2,r2,p2,_⟩:=I.tuple (SqT.of (K:=X.K) hb);cases r1;obtain⟨⟨cls,dd,data,sl⟩,ho,hc,n,hd⟩:=p1;obtain⟨⟨cls2,dd2,data2,sl2⟩,ho2,hc2,n2,hd2⟩:=p2;simp only at hc hd hc2 hd2;subst hc hd hc2 hd2;exact concat_meets ⟨_,ho,rfl⟩ ⟨_,ho2,rfl⟩ noFill_tuple_add seq_tuple_add PySem.F.slot_tuple_add PySem.F.entry_tuple_add (PySem.F.args_tuple_add_2 _ _) (tuple_addW0 a b _ _ n n2 dd dd2 sl sl2 (by simp)) ⟨ho,ho2,⟨.ref b,H,I,rfl,q _ H (al_.refl H) hy⟩⟩
 .refine oJ_ pins s σ H (.ref a) (.ref b) v u Q I rx ry ⟨a,b,vs,ws,rfl,rfl,SqT.of ha,SqT.of hb,h1,by lia,fun e=> ?_,fun _ p np=> ?_⟩
  .have:ys=[]:=Bh.mp (by rw [<-l2,e];rfl);subst this;exact q _ H (al_.refl H) (by rw [Ag];exact hx)
  .exact q _ _ (al_.new np) (fs_ ae_ ((ra.append rb).mono (al_.new np)))
theorem ks_:SlR X (fun x lo hi H Q=>∃xs xs',Is H (.t xs) x/\(∀(H':Hp) (vs:List V),Iss H' xs vs->Iss H' xs' (go_ vs lo hi))/\(∀vs:List V,vs.length=xs.length->(HT.sIx vs.length 0 lo=0/\HT.sIx vs.length vs.length hi=vs.length)->xs'=xs)/\∀v H2,al_ H H2->Is H2 (.t xs') v->Q v H2):=by
 intro pins s σ H x v vl vu lo hi sl Q I rx hs pl pu h;obtain⟨xs,xs',hx,hc,hw,q⟩:=h;obtain⟨a,vs,rfl,ha,ra⟩:=fV_ hx;refine on_ pins s σ H (.ref a) v vl vu lo hi sl Q I rx hs pl pu ⟨a,vs,rfl,SqT.of ha,fun e=> ?_,fun e p np=> ?_⟩
 .have:=hw vs ra.length e;subst this;exact q _ H (al_.refl H) hx
 .exact q _ _ (al_.new np) (fs_ ae_ ((hc _ _ ra).mono (al_.new np)))
end
def LTS (H H':Hp):Prop:=(∀b xs,H b=some (.lst xs)->H' b=some (.lst xs))/\∀b xs,H b=some (.tup xs)->H' b=some (.tup xs)
theorem LTS.dict {H:Hp}{d:Addr}{kvs:List (List Key×V)}{o:HO} (h:H d=some (.dT kvs)):LTS H (upd H d o):=
 ⟨fun b xs e=>by rw [ak_ (by rintro rfl;rw [h] at e;cases e)];exact e,fun b xs e=>by rw [ak_ (by rintro rfl;rw [h] at e;cases e)];exact e⟩
theorem LTS.rd {H H':Hp}{d:Addr}{kvs:List (List Key×V)} (h:Rd H d (.dT kvs)) (k:∀b,b≠d->H' b=H b):LTS H H':=by
 have nd:∀b o,H b=some o->(∀kvs,o≠ .dT kvs)->(∀ob u,o≠ .frz ob u)->b≠d:=by
  rintro b o e n1 n2 rfl;rcases h with h|⟨ob,h⟩
  .rw [h] at e;cases e;exact n1 _ rfl
  .rw [h] at e;cases e;exact n2 _ _ rfl
 exact⟨fun b xs e=>by rw [k b (nd b _ e (fun _ z=>nomatch z) fun _ _ z=>nomatch z)];exact e,fun b xs e=>by rw [k b (nd b _ e (fun _ z=>nomatch z) fun _ _ z=>nomatch z)];exact e⟩
mutual
theorem Is.lts {H H':Hp} (s:LTS H H'):∀{d:D}{v:V},Is H d v->Is H' d v
 | .i _,_,h=>by rw [c5_ h];exact d1_
 | .l xs,_,h=>by
  obtain⟨a,vs,e,q,r⟩:=b9_ h;rw [e];exact co_ (s.1 _ _ q) (Iss.lts s r)
 | .t xs,_,h=>by
  obtain⟨a,vs,e,q,r⟩:=fV_ h;rw [e];exact fs_ (s.2 _ _ q) (Iss.lts s r)
theorem Iss.lts {H H':Hp} (s:LTS H H'):∀{xs:List D}{vs:List V},Iss H xs vs->Iss H' xs vs
 |[],_,h=>by rw [bh_ h];exact ao_
 |x::xs,_,h=>by
  obtain⟨u,us,e,q,r⟩:=aA_ h;rw [e];exact ai_ (Is.lts s q) (Iss.lts s r)
end
end L2
namespace L2
open PySem PySem.Spec PyProof.Rows PySem.W
section
variable {X:Cx}{pins:List (Addr×Obj)}{σ:St}{H:Hp}{s:Shared}
theorem Inv.goesK {i:Nat}{n:Str}{h':Heap}{m:Str->Option Value}{t':Nat}{w:Option Value} (I:Inv X pins σ H s) (hN:X.N.Nodup) (hi:X.N[i]? =some n) (hn0:s.heap.Ns X.env.locals m) (hl:∀(i:Nat) (x:Str) (v:V),X.N[i]? =some x->σ[i]? =some (some v)->Vis X.env.scope x->∃u,aV_ v u/\sz_ X.env s.heap m x u)
  (hn:h'.Ns X.env.locals (fun x=>if x=n then w else m x)) (hs:Heap.SameBut X.env.locals s.heap h'):Inv X pins (σ.set i none) H {s with heap:=h',toks:=t'}:=by
 have lt:∀{b:Addr}{o:Obj},X.s₀.heap.get? b=some o->b≠X.env.locals:=fun e=>AJ (AX (AG e) I.ok.above);refine⟨I.ok,I.os,I.bare,⟨fun b o e n hb hx=> ?_,fun b o e n hb hx=> ?_,I.base.free,fun b o e hx=> ?_,I.base.tups,I.base.frzs,I.base.tbls⟩,⟨_,hn,fun j y v' e1 e2 e3=> ?_⟩,fun y c e=> ?_,I.free,I.freeC,fun p hp=> ?_,fun b ob e=> ?_, ?_⟩
 .exact(hs.2 b (lt e)).trans (I.base.keep b o e n hb hx)
 .obtain⟨sl,e1⟩:=I.base.slot b o e n hb hx;exact⟨sl,(hs.2 b (lt e)).trans e1⟩
 .obtain⟨o',e1⟩:=I.base.there b o e hx;exact⟨o',(hs.2 b (lt e)).trans e1⟩
 .by_cases hj:j=i
  .subst hj;rw [List.getElem?_set_self'] at e2;cases e:σ[j]? with
   |none=>rw [e] at e2;cases e2
   |some a=>rw [e] at e2;cases e2
  .rw [C2 (D3 hj)] at e2;obtain⟨u',r',q⟩:=hl j y v' e1 e2 e3;refine⟨u',r', ?_⟩;rcases q with⟨k,e⟩|⟨k,c,e,z⟩
   .refine .inl ⟨k, ?_⟩;have:y≠n:=fun e=>hj (fX_ hN e1 (e▸hi));simp [this,e]
   .exact .inr ⟨k,c,e,z.sameBut hs (I.cne y c e)⟩
 .obtain⟨w',q⟩:=I.cell y c e;exact⟨w',q.sameBut hs (I.cne y c e)⟩
 .obtain⟨e,n,ne,nf,d⟩:=I.pin p hp;exact⟨(hs.2 p.1 ne).trans e,n,ne,nf,d⟩
 .refine(I.hok b ob e).stay (fun c v hc q=>(hs.2 c fun ec=> ?_).trans q) (fun _ q=>q) fun _ _ q=>q;have fr:=I.free;rw [<-ec] at fr;rcases hc with rfl|hc
  .rw [fr] at e;cases e
  .rw [fr] at hc;cases hc
 .rw [Ba];exact I.len
end
def PSx (X:Cx) (st:List Stmt) (t:XK->TS):Prop:=
 ∀(E:XK) (pins:List (Addr×Obj)) (s:Shared) (σ:St) (H:Hp) (D:Ends),Inv X pins σ H s->t E D σ H->wpAny (model X.prog X.w) X.A (execs st X.env) (SP X pins D) (fun e s'=>∃H1 s1,Inv X pins σ H1 s1/\CX1 X.prog X.w X.stack H1 s1 E e s') s
section
variable {X:Cx}{k:Nat}{f:Addr}{fd:FuncData}{ps:List Str}{sp:Sp}{dvs:List V}{ds:List Value}{x:Str}{p pos pos':Pos}{e:Expr}{es:List Expr}{t:TA}
theorem kJ_ {D:Addr->Prop}{i:Nat} (hf:∀pn z,PE (X.inTry pn z) (.Name x p) (ob_ i)) (hD:∀f,D f->Deed X (CX1 X.prog X.w) ps sp f)
  (ha:∀pn z,PA (X.inTry pn z) (e::es) t) (he:starEach (e::es) X.env=(false,eval e X.env)::starEach es X.env:=by rfl) (hpl:(backTo pos (starEach es X.env)).any (·.1)=false:=by rfl)
  (hs:swapsWith (.Call (.Name x p) (e::es) [] pos) none pos'.line X.env=pure false:=by rfl):
  PSx X [.Expr (.Call (.Name x p) (e::es) [] pos) pos'] fun E=>pD_ (nq_ D i sp E t):=by
 intro E pins s σ H D I h;refine wpAny_execs_cons (thn (Q:=SP X pins D) ?_ fun f s1 q=> ?_)
 rotate_left 1
 .cases f with
  |next=>exact Ch q
  |ret v=>exact q
  |brk=>exact q
  |cont=>exact q
 refine wpAny_Expr_any (thn (Q:=EP X pins σ fun _ H1=>D.nx σ H1) ?_ fun v s1 ⟨y,H1,I1,r1,q1⟩=>⟨σ,H1,I1,q1⟩) I.quiet hs;obtain⟨f,ef,df,h⟩:=h;obtain⟨⟨k,fd,F,hr,hb⟩,hk⟩:=hD f df;have J:Inv (X.inTry (X.pn++pins) fun e s'=>∃H1 s1,Inv X pins σ H1 s1/\CX1 X.prog X.w X.stack H1 s1 E e s') [] σ H s:=I.toTry;refine B4 (thn (hf _ _ [] s σ H (fun v H1=>v= .ref f/\H1=H) J ⟨_,ef,rfl,rfl⟩) fun u s0 ⟨v,H0,I0,r0,ev,eh⟩=> ?_);subst ev eh;obtain rfl:u=Value.ref f:=r0;refine D' (h₀:=X.base) I.ok.mod.kin hk (thn (ha _ _ pos [] s0 σ _ _ I0 h) fun us s1 ⟨vs,H1,I1',r,q⟩=>⟨I1'.kIn, ?_⟩) he hpl;have I1:Inv X pins σ H1 s1:=I1'.unTry;have hl:us.length=ps.length:=by rw [<-r.length];exact F.len _ _ _ _ q
 have hb':=hb s1 us I1.kIn (by rw [Ag];exact hl);rw [Ag] at hb';refine wpAny_call (CV (F.run X.A X.stack s1 H1 ⟨us,[]⟩ us vs _ E hr I1.env0 hb' r q) fun r s' hq=> ?_);cases r with
 |error e=>exact⟨H1,s1,I1,hq⟩
 |ok fl=>
  cases fl with
  |ret u=>exact I1.after hq
  |next=>exact False.elim hq
  |brk=>exact False.elim hq
  |cont=>exact False.elim hq
end
def Ends.del (D:Ends) (i:Nat):Ends:={nx:=fun σ H=>D.nx (σ.set i none) H,rt:=D.rt,bk:=fun σ H=>D.bk (σ.set i none) H,ct:=fun σ H=>D.ct (σ.set i none) H}
def ri_ (K:Frag) (hc:Addr) (i:Nat) (tb:XK->TS) (ts:TS):TS:=fun D σ H=>∃E:XK,tb E D σ H/\
 ∀(C e:Addr) (H':Hp),E (.ref C) none H'->H' e=none->exmOne K (.ref C) (.ref hc)=some true/\ts (D.del i) (σ.set i (some (.ref e))) (upd H' e (je_ C e))
theorem ou_ {X:Cx}{x n:Str}{hc:Addr}{i:Nat}{body suite:List Stmt}{b₀:Stmt}{tb:XK->TS}{ts:TS}{np hpos pos:Pos} (F:Fnc X) (hN:X.N.Nodup) (hi:X.N[i]? =some n) (hx:Loc X.env.scope n) (hloc:X.env.kindOf n=some .local) (hg:Gl X x) (hm:X.mg x=some (.ref hc))
  (hb:PSx X body tb) (hs:∀e,PSs (X.inSuite e) (b₀::suite) ts) (hf:X.fn n=true\/X.env.scope.names.lookup n=some .local:=by first|exact .inl rfl|exact .inr rfl) (hdb:(x==("__debug__":Str))=false:=by decide):
  PS X (.Try body [.ExceptHandler (some (.Name x np)) (some n) (b₀::suite) hpos] [] [] pos) (ri_ X.K hc i tb ts):=by
 intro pins s σ H D I ⟨E,hw,hE⟩;refine wpAny_Try_except (BG (hb E pins s σ H D I hw) (fun f s1 q=> ?_) fun ev s1 q=> ?_)
 .cases f with
  |next=>exact Ch q
  |ret u=>exact q
  |brk=>exact q
  |cont=>exact q
 obtain⟨H1,s0,I0,a,C,H',B,a0,rfl,hEE,os,bare,u,hB,hn,fl,kB,tB⟩:=q;obtain⟨hmt,hts⟩:=hE C a H' hEE hn;have nfr:a∉frs X.stack:=fun z=>by
  obtain⟨_,o,e1,d⟩:=fl.2.2.1.mem z;obtain⟨oe,vs,e2,_,dd,_⟩:=fl.first;rw [e1] at e2;cases e2;exact d _ dd
 have at_:∀{h5:Heap},B.StaysIn h5->s1.heap.UpToSlots h5->Inv X pins σ H' {s1 with heap:=h5}:=fun{h5} st up=>
  I0.call' (s':={s1 with heap:=h5}) (ch:=[]) os (ke_ u fl.2.2.1 kB tB st up) (hB.kept st) bare fun _ z=>absurd z (by simp)
 have bn:=fl.2.1;have new0:s0.heap.get? a=none:=by
  cases q:s0.heap.get? a with
  |none=>rfl
  |some o=>
   obtain⟨o',z⟩:=tB a o q nfr;rw [bn] at z;cases z
 have hnL:a≠X.env.locals:=fun z=>nfr (by rw [F.stk,z];exact nM_ (AU ..) F.fr);have new:X.s₀.heap.get? a=none/\(∀x c,X.env.cells.lookup x=some c->c≠a)/\(∀p∈X.pn++pins,p.1≠a):=by
  refine⟨?_,fun y c q z=> ?_,fun p hp z=> ?_⟩
  .cases q:X.s₀.heap.get? a with
   |none=>rfl
   |some o=>
    obtain⟨o',z⟩:=I0.base.there a o q (by rw [F.ex];simp);rw [new0] at z;cases z
  .obtain⟨v,o,q1,_⟩:=I0.cell y c q;rw [z,new0] at q1;cases q1
  .have q1:=(I0.pin p hp).1;rw [z,new0] at q1;cases q1
 refine wpAny_looks_onW (by rw [I.ok.frames,F.stk]) F.fr (by rw [<-F.stk];exact fl) fun h4 held4 up4=> ?_;refine wpAny_landsW held4 fun h5 fl5 up5=> ?_;have I5:Inv (X.inSuite a) pins σ H' {s1 with heap:=h5}:=(at_ fl5.1 (up4.trans up5)).toSuite;refine wpAny_handleBy_cons (codeAny_handlers_test (eO_ I5 hg hm ?_ hdb)) (by intro q;cases q);obtain⟨ob,ho,hcl⟩:=fl5.there;refine(exm_one (K:=X.K) I5.kIn (hE_ ho hcl) hmt).here ?_;refine codeAny_handlers_suite_as ?_;refine lands_againW fl5 fun h6 fl6 up6=> ?_;obtain⟨ob6,ho6,hcl6⟩:=fl6.there;have I6:Inv X pins σ (upd H' a (je_ C a)) {s1 with heap:=h6}:=(at_ fl6.1 ((up4.trans up5).trans up6)).hold hn hnL new ⟨ob6,ho6,hcl6⟩;refine d9_ (X:=X.inSuite a) (v:= .ref a) I6.toSuite hN hi hx rfl (fun s7 I7=> ?_) hf;refine BG (hs a pins s7 _ _ _ I7 hts) (fun f s8 q=> ?_) fun _ _ z=>z.elim;have go:∀{σ8:St}{H8:Hp},Inv (X.inSuite a) pins σ8 H8 s8->(∀s9,Inv X pins (σ8.set i none) H8 s9->SP X pins D f s9)->
   wpAny (model X.prog X.w) X.A (do bindName X.env n .none;unbindBehindTheSuite X.env n hpos) (fun _ s9=>SP X pins D f s9) X.xe s8:=fun{σ8 H8} I8 k=>by
  obtain⟨m,hns,hlk⟩:=I8.loc;refine wpAny_nameGoes_keeps hloc hns (by rw [I.ok.kind];rfl) fun h9 v9 hn9 hs9=> ?_;exact k _ ((Inv.unSuite I.ok.hd I8).goesK (t':=s8.toks+1) hN hi hns hlk hn9 hs9)
 cases f with
 |next=>obtain⟨σ8,H8,I8,q⟩:=q;exact go I8 fun s9 J=>⟨_,_,J,q⟩
 |brk=>obtain⟨σ8,H8,I8,q⟩:=q;exact go I8 fun s9 J=>⟨_,_,J,q⟩
 |cont=>obtain⟨σ8,H8,I8,q⟩:=q;exact go I8 fun s9 J=>⟨_,_,J,q⟩
 |ret u=>obtain⟨v,σ8,H8,I8,r,q⟩:=q;exact go I8 fun s9 J=>⟨v,_,_,J,r,q⟩
end L2
namespace L2
open PySem PySem.Spec PyProof.Rows PySem.W
section
variable {prog:Program}{w:World}{K:Type} [DecidableEq K] {knd:KeyKind prog w K}
variable {A:Around}{E:Value->Shared->Prop}{s:Shared}
theorem hQ_ {ks:List K}{a:Addr}{n:Nat}{Q:Bool->Shared->Prop} (hk:IsTupleKey knd s.heap ks a) (h:Q true s):wpAny (model prog w) A (eqIsQuiet (n+1) (.ref a)) Q E s:=by
 have hT:=hk.typeIs;obtain⟨o,items,n,ho,_,hd,hi⟩:=hk;unfold eqIsQuiet;refine A0 (CI hT F.slot_tuple_eq.lookup ?_);show wpAny _ _ (isInstance (.ref a) (.type "tuple")>>=_) _ _ s;refine A0 (Bt hT isSubtype_tuple_tuple ?_);simp only [B9,AF,Ah];refine A0 (Bd ho hd ?_);refine A0 ?_;show wpAny _ _ (forIn items _ _) _ _ s;rw [<-CZ];refine Bu _ (fun ci_ r s'=>r.1=none/\s'=s/\∀v∈ci_,carriedByValue v=true) _ ?_ ?_ _ _ ⟨rfl,rfl,hi.byValue⟩
 .rintro v ci_ r s' ⟨hr,rfl,hall⟩;rw [eqIsQuiet_byValue _ (hall v AU)];refine A0 (A2 ?_);simp only [B9,AF,Ah];exact A2 ⟨rfl,rfl,fun u hu'=>hall u (AR _ hu')⟩
 .rintro⟨r1,r2⟩ s' ⟨hr,rfl,_⟩;simp only at hr;subst hr;exact A2 h
end
end L2
namespace L2
open PySem PySem.Spec PyProof.Rows PySem.W
theorem lv_ {A:Around}{k:Nat} (hr:Room k A):A.units+2<cLine:=by have:=hr.un;lia
section
variable {P:Program}{w:World}{H:Hp}{h:Heap}{a:Addr}
theorem i6_:∀{ks:List Int}{us:List Value},aP_ (ks.map V.int) us->ItemsAre (intKind P w) ks us
 |[],_,r=>by rw [D5] at r;cases r;exact .nil
 |k::ks,_,r=>by
  rw [AO] at r;cases r with
  |cons h t=>
   obtain⟨t',rfl⟩:=h;exact .cons (show Value.isInt k (.int k t')=true by simp [Value.isInt]) (i6_ t)
theorem qs_ {ks:List Int} (ok:HOk P w H h) (e:H a=some (.tup (ks.map V.int))):IsTupleKey (intKind P w) h ks a:=by
 obtain⟨_,its,r,o,h1,h2,n,h3⟩:=(show aH_ P w H h a (.tup (ks.map V.int)) from ok a _ e);exact⟨o,its.toArray,n,h1,h2,h3,by simpa using i6_ r⟩
end
section
variable {X:Cx}{pins:List (Addr×Obj)}{σ:St}{H:Hp}{s:Shared}{a b:Addr}{v:V}{r:Value}{A:Around}{E:Value->Shared->Prop}{kvs:List (List (List Int)×V)}{ks:List (List Int)}
end
section
variable {X:Cx}{o i e f value ek ev:Expr}{pos pos' apos cpos:Pos}{td ty tv tx tk:TE}
end
end L2
namespace L2
open PySem PySem.Spec PyProof.Rows PySem.W
section
variable {prog:Program}{w:World}{A:Around}{E:Value->Shared->Prop}{s:Shared}
end
section
variable {X:Cx}
end
end L2
namespace L2
open PySem PySem.Spec PyProof.Rows PySem.W
abbrev Mx (K:Type):=Sum K (List K)
def isL {K:Type}:Mx K->Bool
 | .inl _=>true
 | .inr _=>false
section
variable {prog:Program}{w:World}{K:Type} [DecidableEq K] {knd:KeyKind prog w K}
inductive ItemsM (knd:KeyKind prog w K) (h:Heap):List (Mx K)->List Value->Prop
 |nil:ItemsM knd h [] []
 |val {k:K}{v:Value}{ks:List (Mx K)}{vs:List Value}:knd.is k v=true->ItemsM knd h ks vs->ItemsM knd h (.inl k::ks) (v::vs)
 |tup {k:List K}{a:Addr}{ks:List (Mx K)}{vs:List Value}:IsTupleKey knd h k a->ItemsM knd h ks vs->ItemsM knd h (.inr k::ks) (.ref a::vs)
def c9_ (knd:KeyKind prog w K) (sh:List Bool) (h:Heap) (ks:List (Mx K)) (a:Addr):Prop:=ks.map isL=sh/\∃o items n,h.get? a=some o/\o.cls= .type "tuple"/\o.data= .seq items n/\ItemsM knd h ks items.toList
theorem ItemsM.inj {h:Heap}{x y:List (Mx K)}{vs:List Value} (hx:ItemsM knd h x vs) (hy:ItemsM knd h y vs) (e:x.map isL=y.map isL):x=y:=by
 induction hx generalizing y with
 |nil=>cases hy;rfl
 |val h1 _ ih=>
  cases hy with
  |val h2 t2=>rw [knd.inj _ _ _ h1 h2,ih t2 (by simpa [isL] using e)]
  |tup h2 t2=>simp [isL] at e
 |tup h1 _ ih=>
  cases hy with
  |val h2 t2=>simp [isL] at e
  |tup h2 t2=>rw [h1.inj h2,ih t2 (by simpa [isL] using e)]
theorem ItemsM.keeps {h h':Heap}{x:List (Mx K)}{vs:List Value}{d:Addr}{o:Obj}{es ep} (hx:ItemsM knd h x vs) (ho:h.get? d=some o) (hd:o.data= .dict es ep) (hs:Heap.SameBut d h h'):ItemsM knd h' x vs:=by
 induction hx with
 |nil=>exact .nil
 |val h1 _ ih=>exact .val h1 ih
 |tup h1 _ ih=>exact .tup (h1.keeps ho hd hs) ih
variable {sh:List Bool}
theorem c9_.typeIs {s:Shared}{ks:List (Mx K)}{a:Addr} (x:c9_ knd sh s.heap ks a):s.TypeIs (.ref a) "tuple":=let ⟨_,o,_,_,ho,hc,_⟩:=x;⟨o,ho,hc⟩
theorem c9_.inj {h:Heap}{a:Addr}{x y:List (Mx K)} (hx:c9_ knd sh h x a) (hy:c9_ knd sh h y a):x=y:=by
 obtain⟨e1,o,items,n,ho,_,hd,hi⟩:=hx;obtain⟨e2,o',items',n',ho',_,hd',hi'⟩:=hy;obtain rfl:o=o':=Ac (ho.symm.trans ho');rw [hd] at hd';injection hd' with h1 _;subst h1;exact hi.inj hi' (e1.trans e2.symm)
theorem c9_.keeps {h h':Heap}{ks:List (Mx K)}{a d:Addr}{o:Obj}{es ep} (x:c9_ knd sh h ks a) (ho:h.get? d=some o) (hd:o.data= .dict es ep) (hs:Heap.SameBut d h h'):c9_ knd sh h' ks a:=by
 obtain⟨e,o',items,n,ho',hc,hd',hi⟩:=x;have hne:a≠d:=by
  rintro rfl;obtain rfl:o'=o:=Ac (ho'.symm.trans ho);rw [hd] at hd';exact nomatch hd'
 exact⟨e,o',items,n,(hs.2 a hne).trans ho',hc,hd',hi.keeps ho hd hs⟩
def l6_ (knd:KeyKind prog w K):Mx K->Int
 | .inl k=>knd.hash k
 | .inr ks=>tupleKeyHash knd ks
def pp_ {K:Type}:Mx K->Nat
 | .inl _=>1
 | .inr ks=>ks.length+1
def h5_ (knd:KeyKind prog w K) (ks:List (Mx K)):Int:=reduceHash (Builtin.Tuple.tupleHashOf (ks.map (l6_ knd)))
def f0_ (ks:List (Mx K)):Nat:=(ks.map pp_).sum+1
variable {A:Around}{E:Value->Shared->Prop}{s:Shared}
theorem jE_ {ks:List (Mx K)}{a:Addr}{Q:Int->Shared->Prop} (hu:A.units+1<cLine) (hk:c9_ knd sh s.heap ks a) (h:Q (h5_ knd ks) {s with toks:=s.toks+f0_ ks}):
  wpAny (model prog w) A (pyHash (.ref a)) Q E s:=by
 have hT:=hk.typeIs;obtain⟨_,o,items,n,ho,_,hd,hi⟩:=hk;unfold pyHash;first|unfold pyHashByItsType|skip
 first|refine A0 (wpAny_cRoomFor_or (.inr (by lia)) ?_)|skip
 refine A0 (CI hT Cv.lookup ?_);show wpAny _ _ (if(some (Value.builtin "tuple.__hash__")==some Value.none)=true then _ else _) Q E s;rw [A9 (by rw [beq_builtin_none];exact AM)];refine A0 (CI hT Cv.lookup ?_);show wpAny _ _ (callSpecialIfBoundUnlessNone? (.ref a) "__hash__" _>>=_) Q E s;refine A0 (wpAny_callSpecialIfBoundUnlessNone?_slot hT Cv (AY Cv hT F.entry_tuple_hash ?_ (F.args_tuple_hash_1 _)));show wpAny _ _ (Builtin.Tuple.tupleItemsOf (.ref a)>>=_) _ _ s;refine A0 (wpAny_tupleItemsOf ho hd ?_);refine A0 ?_;rw [<-CZ];refine Bu _
  (fun ci_ (b:Array Int) s'=>∃done left,ks=done++left/\ItemsM knd s.heap left ci_/\b.toList=done.map (l6_ knd)/\s'={s with toks:=s.toks+(done.map pp_).sum})
  _ ?_ ?_ _ _ ⟨[],ks,rfl,hi,rfl,rfl⟩
 .rintro x ci_ b s' ⟨done,left,rfl,hl,hb,rfl⟩;cases hl with
  | @val k v1 ks' _ h1 hl'=>
   refine A0 (knd.pyHash h1 ?_);first
    |exact A2 ⟨done++[.inl k],ks',by simp,hl',by simp [hb,l6_],by simp [Cq,pp_]⟩
    |exact A0 (A2 (A2 ⟨done++[.inl k],ks',by simp,hl',by simp [hb,l6_],by simp [Cq,pp_]⟩))
  | @tup k a1 ks' _ h1 hl'=>
   refine A0 (wpAny_pyHash_tuple (knd:=knd) (ks:=k) (by first|exact hu|(rw [aK_];lia)|(simp;lia)) h1 ?_);first
    |exact A2 ⟨done++[.inr k],ks',by simp,hl',by simp [hb,l6_],by simp [Cq,pp_]⟩
    |exact A0 (A2 (A2 ⟨done++[.inr k],ks',by simp,hl',by simp [hb,l6_],by simp [Cq,pp_]⟩))
 .rintro b s' ⟨done,left,rfl,hl,hb,rfl⟩;cases hl;rw [Ag] at h;show wpAny _ _ (retInt (Builtin.Tuple.tupleHashOf b.toList)) _ _ _;rw [hb];refine wpAny_ret_mkInt ?_;show wpAny _ _ (if(decide (-(2:Int)^63<=Builtin.Tuple.tupleHashOf (done.map (l6_ knd)))&&decide (Builtin.Tuple.tupleHashOf (done.map (l6_ knd))<2^63))=true then _ else _) Q E _;unfold h5_ reduceHash f0_ at h;by_cases hr:(decide (-(2:Int)^63<=Builtin.Tuple.tupleHashOf (done.map (l6_ knd)))&&decide (Builtin.Tuple.tupleHashOf (done.map (l6_ knd))<2^63))=true
  .rw [AA hr];rw [AA hr] at h;exact A2 (by simpa [Cq] using h)
  .rw [A9 hr];rw [A9 hr] at h;exact A0 (D1 (A2 (by simpa [Cq] using h)))
theorem h2_ {x y:List (Mx K)}{a b:Addr}{P:Fin->Shared->Prop} (hu:A.units<cLine) (hx:c9_ knd sh s.heap x a) (hy:c9_ knd sh s.heap y b) (h:P (.done (.ret (.bool (decide (x=y))))) s):
  wpAny (model prog w) A (Builtin.«tuple.__eq__» ⟨[.ref a, .ref b],[]⟩) P E s:=by
 have hTb:=hy.typeIs;obtain⟨sx,oa,xs,na,hoa,_,hda,hia⟩:=hx;obtain⟨sy,ob,ys,nb,hob,_,hdb,hib⟩:=hy;show wpAny _ _ (isInstance (.ref b) (.type "tuple")>>=_) _ _ s;refine A0 (Bt hTb isSubtype_tuple_tuple ?_);simp only [B9,AF,Ah];refine A0 (wpAny_tupleItemsOf hoa hda ?_);refine A0 (wpAny_tupleItemsOf hob hdb ?_);refine A0 ?_;refine Bu _
  (fun ci_ r s'=>r.1=none/\s'=s/\∃x' y' xs' ys',ci_=List.zip xs' ys'/\ItemsM knd s.heap x' xs'/\ItemsM knd s.heap y' ys'/\decide (x'=y')=decide (x=y)/\x'.map isL=y'.map isL/\(xs'.length==ys'.length)=(xs.size==ys.size))
  _ ?_ ?_ _ _ ⟨rfl,rfl,x,y,xs.toList,ys.toList,rfl,hia,hib,rfl,sx.trans sy.symm,by simp⟩
 .rintro⟨u,v⟩ ci_ r s' ⟨hr,rfl,x',y',xs',ys',hz,hx',hy',hdec,hsh,hlen⟩;cases hx' with
  |nil=>simp at hz
  | @val k1 v1 x'' xs'' h1 hx''=>
   cases hy' with
   |nil=>simp at hz
   |tup _ _=>simp [isL] at hsh
   | @val k2 v2 y'' ys'' h2 hy''=>
    simp only [List.zip_cons_cons,List.cons.injEq,BE] at hz;obtain⟨⟨rfl,rfl⟩,rfl⟩:=hz;refine A0 (knd.eqBool h1 h2 ?_);by_cases hk:k1=k2
    .subst hk;rw [BC rfl];simp only [B9,AF,Ah];refine A2 ⟨rfl,rfl,x'',y'',xs'',ys'',rfl,hx'',hy'', ?_,by simpa using hsh,by simpa using hlen⟩;rw [<-hdec];by_cases hxy:x''=y''
     .simp [hxy]
     .simp [hxy]
    .rw [Ak hk];simp only [Cg,Bz];have hf:decide (x=y)=false:=by rw [<-hdec];simp [hk]
     rw [hf] at h;exact A0 (A2 (A2 (A2 h)))
  | @tup k1 a1 x'' xs'' h1 hx''=>
   cases hy' with
   |nil=>simp at hz
   |val _ _=>simp [isL] at hsh
   | @tup k2 a2 y'' ys'' h2 hy''=>
    simp only [List.zip_cons_cons,List.cons.injEq,BE] at hz;obtain⟨⟨rfl,rfl⟩,rfl⟩:=hz;refine A0 (wpAny_eqBool_tuple (knd:=knd) (x:=k1) (y:=k2) (by first|exact hu|(rw [aK_];lia)|(simp;lia)) h1 h2 ?_);by_cases hk:k1=k2
    .subst hk;rw [BC rfl];simp only [B9,AF,Ah];refine A2 ⟨rfl,rfl,x'',y'',xs'',ys'',rfl,hx'',hy'', ?_,by simpa using hsh,by simpa using hlen⟩;rw [<-hdec];by_cases hxy:x''=y''
     .simp [hxy]
     .simp [hxy]
    .rw [Ak hk];simp only [Cg,Bz];have hf:decide (x=y)=false:=by rw [<-hdec];simp [hk]
     rw [hf] at h;exact A0 (A2 (A2 (A2 h)))
 .rintro⟨r1,r2⟩ s' ⟨hr,rfl,x',y',xs',ys',hz,hx',hy',hdec,hsh,hlen⟩;simp only at hr;subst hr;refine A2 ?_;have hfin:(xs.size==ys.size)=decide (x=y):=by
   rw [<-hdec,<-hlen];cases hx' with
   |nil=>
    cases hy' with
    |nil=>simp
    |val _ _=>simp
    |tup _ _=>simp
   |val _ _=>
    cases hy' with
    |nil=>simp
    |val _ _=>simp at hz
    |tup _ _=>simp at hz
   |tup _ _=>
    cases hy' with
    |nil=>simp
    |val _ _=>simp at hz
    |tup _ _=>simp at hz
  show P (.done (.ret (.bool (xs.size==ys.size)))) s';rw [hfin];exact h
theorem jU_ {x y:List (Mx K)}{a b:Addr}{Q:Bool->Shared->Prop} (hu:A.units+1<cLine) (hx:c9_ knd sh s.heap x a) (hy:c9_ knd sh s.heap y b) (h:Q (decide (x=y)) s):
  wpAny (model prog w) A (eqBool (.ref a) (.ref b)) Q E s:=by
 unfold eqBool;try with_reducible refine An ?_
 show wpAny _ _ (if(Value.ref a==Value.ref b)=true then _ else _) Q E s;by_cases hab:(Value.ref a==Value.ref b)=true
 .rw [AA hab];have e:a=b:=by have:=eq_of_beq hab;injection this
  subst e;obtain rfl:=hx.inj hy;exact A0 (D1 (A2 (by simpa using h)))
 .rw [A9 hab];exact A0 (wpAny_richCompare_same_room (op:= .Eq) hx.typeIs hy.typeIs F.slot_tuple_eq
   (AY F.slot_tuple_eq hx.typeIs F.entry_tuple_eq (h2_ (by first|lia|(rw [aK_];lia)|(simp;lia)) hx hy ⟨_,rfl,(fun e=>nomatch e),Bc h⟩) (F.args_tuple_eq_2 _ _)) (by lia))
theorem kH_ {ks:List (Mx K)}{a:Addr}{Q:Bool->Shared->Prop} (hk:c9_ knd sh s.heap ks a) (h:Q true s):wpAny (model prog w) A (eqIsQuiet 8 (.ref a)) Q E s:=by
 have hT:=hk.typeIs;obtain⟨_,o,items,n,ho,_,hd,hi⟩:=hk;unfold eqIsQuiet;refine A0 (CI hT F.slot_tuple_eq.lookup ?_);show wpAny _ _ (isInstance (.ref a) (.type "tuple")>>=_) _ _ s;refine A0 (Bt hT isSubtype_tuple_tuple ?_);simp only [B9,AF,Ah];refine A0 (Bd ho hd ?_);refine A0 ?_;show wpAny _ _ (forIn items _ _) _ _ s;rw [<-CZ];refine Bu _ (fun ci_ r s'=>r.1=none/\s'=s/\∃x,ItemsM knd s.heap x ci_) _ ?_ ?_ _ _ ⟨rfl,rfl,ks,hi⟩
 .rintro v ci_ r s' ⟨hr,rfl,x,hall⟩;cases hall with
  |val h1 ht=>
   rw [eqIsQuiet_byValue _ (knd.byValue _ _ h1)];refine A0 (A2 ?_);simp only [B9,AF,Ah];exact A2 ⟨rfl,rfl,_,ht⟩
  |tup h1 ht=>
   refine A0 (hQ_ h1 ?_);simp only [B9,AF,Ah];exact A2 ⟨rfl,rfl,_,ht⟩
 .rintro⟨r1,r2⟩ s' ⟨hr,rfl,_⟩;simp only at hr;subst hr;exact A2 h
end
def fp_ {prog:Program}{w:World}{K:Type} [DecidableEq K] (knd:KeyKind prog w K) (sh:List Bool):HeapKind prog w (List (Mx K)) where
 is:=c9_ knd sh
 hash:=h5_ knd
 draws:=f0_
 room:=fun A=>A.units+1<cLine
 inj:=fun hx hy=>hx.inj hy
 keeps:=fun x ho hd hs=>x.keeps ho hd hs
 pyHash:=fun hu hk h=>jE_ hu hk h
 eqBool:=fun hu hx hy h=>jU_ hu hx hy h
 quiet:=fun hk h=>kH_ hk h
end L2
namespace L2
open PySem PySem.Spec PyProof.Rows PySem.W
def mD:Mx Int->D
 | .inl i=> .i i
 | .inr t=>tI t
def qsh:List Bool:=[true,true,false,false]
def mK (ks:List (Mx Int)):D:= .t (ks.map mD)
def IsK (H:Hp) (ks:List (Mx Int)) (v:V):Prop:=ks.map isL=qsh/\Is H (mK ks) v
section
variable {P:Program}{w:World}{H:Hp}{h:Heap}{a:Addr}
def mE (P:Program) (w:World) (xs:List (List (Mx Int)×Addr×Value)) (a:Addr) (h:Heap):Prop:=
 ∃o es ep,h.get? a=some o/\o.ExactDict/\o.data= .dict es ep/\es.toList=xs.map (entryOfKey (fp_ (intKind P w) qsh))/\(xs.map (·.1)).Nodup
abbrev MT (H:Hp):List (List (Mx Int)×V)->List (List (Mx Int)×Addr×Value)->Prop:=Paired fun p q=>p.1=q.1/\IsK H p.1 (.ref q.2.1)/\aV_ p.2 q.2.2
def DM (P:Program) (w:World) (H:Hp) (a:Addr) (kvs:List (List (Mx Int)×V)):Prop:=kvs.length<=sizeLine/\(a==sysModules)=false/\∃xs,MT H kvs xs/\H a=some (.ext (mE P w xs a))
theorem eR_ (ok:HOk P w H h):∀{ks:List (Mx Int)}{vs:List V}{us:List Value},Iss H (ks.map mD) vs->aP_ vs us->ItemsM (intKind P w) h ks us
 |[],_,_,i,r=>by rw [bh_ i] at r;cases r;exact .nil
 | .inl k::ks,_,_,i,r=>by
  obtain⟨u,us,rfl,q,i2⟩:=aA_ i;obtain rfl:=c5_ q;cases r with
  |cons h t=>
   obtain⟨t',rfl⟩:=h;exact .val (show Value.isInt k (.int k t')=true by simp [Value.isInt]) (eR_ ok i2 t)
 | .inr k::ks,_,_,i,r=>by
  obtain⟨u,us,rfl,q,i2⟩:=aA_ i;obtain⟨b,rfl,hb⟩:=cg_ q;cases r with
  |cons h t=>
   cases h;exact .tup (qs_ ok hb) (eR_ ok i2 t)
theorem fZ_ {ks:List (Mx Int)} (ok:HOk P w H h) (e:IsK H ks (.ref a)):(fp_ (intKind P w) qsh).is h ks a:=by
 obtain⟨sh,e⟩:=e;obtain⟨b,vs,eb,hb,hi⟩:=fV_ e;cases eb;obtain⟨_,its,r,o,h1,h2,n,h3⟩:=(show aH_ P w H h a (.tup vs) from ok a _ hb);exact⟨sh,o,its.toArray,n,h1,h2,h3,by simpa using eR_ ok hi r⟩
theorem m6_ {kvs:List (List (Mx Int)×V)} (ok:HOk P w H h) (e:DM P w H a kvs):kvs.length<=sizeLine/\(a==sysModules)=false/\∃xs,MT H kvs xs/\H a=some (.ext (mE P w xs a))/\h.DictOfH (fp_ (intKind P w) qsh) a xs:=by
 obtain⟨z,y,xs,r,e⟩:=e;obtain⟨⟨o,es,ep,h1,h2,h3,h4,h5⟩,_,_⟩:=(show aH_ P w H h a (.ext (mE P w xs a)) from ok a _ e);refine⟨z,y,xs,r,e,o,es,ep,h1,h2,h3,h4,fun x hx=> ?_,h5⟩;have all:∀{l:List (List (Mx Int)×V)}{m:List (List (Mx Int)×Addr×Value)},MT H l m->∀x∈m,(fp_ (intKind P w) qsh).is h x.1 x.2.1:=by
  intro l m q;induction q with
  |nil=>intro x hx;exact nomatch hx
  | @cons p q ps qs hq t ih=>
   intro x hx;rcases AI.mp hx with e|hx
   .subst e;exact fZ_ ok (by rw [<-hq.1];exact hq.2.1)
   .exact ih x hx
 exact all r x hx
theorem qL_ {xs:List (List (Mx Int)×Addr×Value)}{H':Hp} (d:∃o es ep,h.get? a=some o/\o.ExactDict/\o.data= .dict es ep/\es.toList=xs.map (entryOfKey (fp_ (intKind P w) qsh))/\(xs.map (·.1)).Nodup):aH_ P w H' h a (.ext (mE P w xs a)):=by
 refine⟨d,let ⟨o,_,_,h1,_⟩:=d;⟨o,h1⟩,fun h1 h2 f k=> ?_⟩;obtain⟨o,es,ep,e1,r⟩:=f;exact⟨o,es,ep,k o e1,r⟩
theorem MT.val {kvs:List (List (Mx Int)×V)}{xs:List (List (Mx Int)×Addr×Value)} (r:MT H kvs xs) (k:List (Mx Int)):in_ (e4_ kvs k) ((atKey xs k).map (·.2)):=by
 induction r with
 |nil=>exact True.intro
 | @cons p q ps qs h t ih=>
  obtain⟨h1,_,h2⟩:=h;by_cases e:p.1=k
  .have e':q.1=k:=h1.symm.trans e;have b:atKey (q::qs) k=some q.2:=by simp [atKey,BS,e']
   rw [db_ e,b];exact h2
  .have e':¬q.1=k:=fun z=>e (h1.trans z);have b:atKey (q::qs) k=atKey qs k:=by simp [atKey,BS,e']
   rw [dc_ e,b];exact ih
theorem MT.repl {kvs:List (List (Mx Int)×V)}{xs:List (List (Mx Int)×Addr×Value)} (r:MT H kvs xs) (k:List (Mx Int)) {y:V}{u:Value} (ry:aV_ y u):
  MT H (kvs.map fun kv=>if kv.1=k then(kv.1,y) else kv) (xs.map (putAt k u)):=by
 induction r with
 |nil=>exact .nil
 | @cons p q ps qs h t ih=>
  rw [AO,AO];refine .cons ?_ ih;obtain⟨h1,h2,h3⟩:=h;unfold putAt;by_cases e:p.1=k
  .rw [AA e,AA (h1.symm.trans e)];exact⟨h1,h2,ry⟩
  .rw [A9 e,A9 (fun z=>e (h1.trans z))];exact⟨h1,h2,h3⟩
theorem MT.put {kvs:List (List (Mx Int)×V)}{xs:List (List (Mx Int)×Addr×Value)} (r:MT H kvs xs) (k:List (Mx Int)) {b:Addr}{y:V}{u:Value} (hb:IsK H k (.ref b)) (ry:aV_ y u):
  MT H (eb_ kvs k y) (storedH xs k b u):=by
 have e:(kvs.any fun kv=>decide (kv.1=k))=(atKey xs k).isSome:=by
  rw [fE_,(r.val k).isSome_eq,Option.isSome_map]
 unfold eb_ storedH;rw [e];by_cases q:(atKey xs k).isSome=true
 .rw [AA q,AA q];exact r.repl k ry
 .rw [A9 q,A9 q];exact Paired.snoc r ⟨rfl,hb,ry⟩
theorem mO_ {H':Hp} (ht:∀b ys,H b=some (.tup ys)->H' b=some (.tup ys)) {ks:List (Mx Int)}{v:V} (h:IsK H ks v):IsK H' ks v:=by
 obtain⟨sh,h⟩:=h;obtain⟨b,vs,rfl,hb,hi⟩:=fV_ h;have go:∀{xs:List (Mx Int)}{vs:List V},Iss H (xs.map mD) vs->Iss H' (xs.map mD) vs:=by
  intro xs;induction xs with
  |nil=>intro vs h;rw [bh_ h];exact ao_
  |cons x xs ih=>
   intro vs h;obtain⟨u,us,rfl,q,r⟩:=aA_ h;cases x with
   |inl k=>rw [show u= .int k from c5_ q];exact ai_ d1_ (ih r)
   |inr k=>
    obtain⟨c,rfl,hc⟩:=cg_ q;exact ai_ (h9_ (ht _ _ hc)) (ih r)
 exact⟨sh,fs_ (ht _ _ hb) (go hi)⟩
theorem MT.keeps {H':Hp}{kvs:List (List (Mx Int)×V)}{xs:List (List (Mx Int)×Addr×Value)} (r:MT H kvs xs) (ht:∀b ys,H b=some (.tup ys)->H' b=some (.tup ys)):MT H' kvs xs:=
 Paired.mapP r fun _ _ z=>⟨z.1,mO_ ht z.2.1,z.2.2⟩
theorem DM.mono {H':Hp}{kvs:List (List (Mx Int)×V)} (s:al_ H H') (d:DM P w H a kvs):DM P w H' a kvs:=by
 obtain⟨z,y,xs,r,e⟩:=d;exact⟨z,y,xs,r.keeps fun b ys=>s b _,s _ _ e⟩
theorem DM.mut {kvs:List (List (Mx Int)×V)} (d:DM P w H a kvs):Mut (H a):=by
 obtain⟨_,_,xs,_,e⟩:=d;rw [e];exact True.intro
theorem DM.ntup {kvs:List (List (Mx Int)×V)} (d:DM P w H a kvs) {b:Addr}{ys:List V} (e:H b=some (.tup ys)):b≠a:=by
 obtain⟨_,_,xs,_,e2⟩:=d;rintro rfl;rw [e2] at e;cases e
end
section
variable {X:Cx}{pins:List (Addr×Obj)}{σ:St}{H:Hp}{s:Shared}{a b:Addr}{v:V}{r:Value}{A:Around}{E:Value->Shared->Prop}{kvs:List (List (Mx Int)×V)}{ks:List (Mx Int)}
theorem fM_ {prog:Program}{w:World}{A:Around} (hu:A.units+2<cLine):(fp_ (intKind prog w) qsh).room A.in1:=by
 show A.in1.units+1<cLine;rw [aK_];lia
theorem k7_ {Q:Value->Shared->Prop} (hu:A.units+2<cLine) (I:Inv X pins σ H s) (d:DM X.prog X.w H a kvs) (k:IsK H ks (.ref b)) (l:e4_ kvs ks=some v) (h:∀w' s',Inv X pins σ H s'->aV_ v w'->Q w' s'):
  wpAny (model X.prog X.w) A (getItem (.ref a) (.ref b)) Q E s:=by
 obtain⟨z,hd,xs,rel,_,dd⟩:=m6_ I.hok d;obtain⟨w',hw,rw'⟩:=in_.some_of (v:=v) (o:=(atKey xs ks).map (·.2)) (by rw [<-l];exact rel.val ks);obtain⟨p,hp,hp2⟩:=A8.mp hw;refine wpAny_getItem_heap (fM_ hu) (fZ_ I.hok k) dd hp ?_;rw [hp2];exact h w' _ (I.tok _) rw'
theorem oR_ {Q:Value->Shared->Prop} (hu:A.units+2<cLine) (I:Inv X pins σ H s) (d:DM X.prog X.w H a kvs) (k:IsK H ks (.ref b)) (h:∀s',Inv X pins σ H s'->Q (.bool (!(e4_ kvs ks).isSome)) s'):
  wpAny (model X.prog X.w) A (compareOp .NotIn (.ref b) (.ref a)) Q E s:=by
 obtain⟨z,hd,xs,rel,_,dd⟩:=m6_ I.hok d;refine wpAny_notIn_heap (fM_ hu) (fZ_ I.hok k) hd dd ?_;have q:=(rel.val ks).isSome_eq;rw [Option.isSome_map] at q;rw [<-q];exact h _ (I.tok _)
theorem k6_ {Q:Unit->Shared->Prop} (hu:A.units+2<cLine) (I:Inv X pins σ H s) (d:DM X.prog X.w H a kvs) (k:IsK H ks (.ref b)) (hl:kvs.length<sizeLine) (rv:aV_ v r)
  (h:∀H' s',DM X.prog X.w H' a (eb_ kvs ks v)->(∀b,b≠a->H' b=H b)->Inv X pins σ H' s'->Q () s'):wpAny (model X.prog X.w) A (setItem (.ref a) (.ref b) r) Q E s:=by
 obtain⟨z,hd,xs,rel,e,dd⟩:=m6_ I.hok d;have hz:xs.length<=sizeLine:=by rw [<-Bs rel];exact z
 have hl':(eb_ kvs ks v).length<=sizeLine:=by have:=c8_ kvs ks v;lia
 refine wpAny_setItem_heap (hsz:=hz) (fM_ hu) (fZ_ I.hok k) dd fun h' dd' hs=> ?_;obtain⟨q,es,ep,hq,h2,h3,h4,_,h5⟩:=dd';refine h (upd H a (.ext (mE X.prog X.w (storedH xs ks b r) a))) _ ⟨hl',hd,_,(rel.put ks k rv).keeps fun c ys ec=> ?_,ae_⟩ (fun c hc=>ak_ hc) (eX_ I d.mut hs ⟨q,hq⟩ (qL_ ⟨q,es,ep,hq,h2,h3,h4,h5⟩));rw [ak_ (d.ntup ec)];exact ec
theorem sd_ (I:Inv X pins σ H s) (d:DM X.prog X.w H a kvs):s.TypeIs (.ref a) "dict"/\(∀b,Value.ref a= .ref b->∃ob,s.heap.get? b=some ob/\ob.dict=none)/\(a==sysModules)=false:=by
 obtain⟨_,hd,xs,_,_,dd⟩:=m6_ I.hok d;refine⟨dd.typeIs,fun b q=> ?_,hd⟩;cases q;obtain⟨ob,_,_,h1,h2,_⟩:=dd;exact⟨ob,h1,h2.2.1⟩
end
def rq_ (P:Program) (w:World) (td ty:TE):TE:=fun σ H Q=>td σ H fun x H1=>ty σ H1 fun y H2=>∃a kvs ks v,x= .ref a/\DM P w H2 a kvs/\IsK H2 ks y/\e4_ kvs ks=some v/\Q v H2
def od_ (P:Program) (w:World) (ty td:TE):TE:=fun σ H Q=>ty σ H fun y H1=>td σ H1 fun x H2=>∃a kvs ks,x= .ref a/\DM P w H2 a kvs/\IsK H2 ks y/\Q (.bl (!(e4_ kvs ks).isSome)) H2
def rS_ (P:Program) (w:World) (td ty tv:TE):TS:=fun D σ H=>tv σ H fun v H1=>td σ H1 fun x H2=>ty σ H2 fun y H3=>∃a kvs ks,x= .ref a/\DM P w H3 a kvs/\IsK H3 ks y/\kvs.length<sizeLine/\∀H4,DM P w H4 a (eb_ kvs ks v)->(∀b,b≠a->H4 b=H3 b)->D.nx σ H4
def rp_ (P:Program) (w:World):TE:=fun _ H Q=>∀p H',H p=none->DM P w H' p []->(∀b,b≠p->H' b=H b)->Q (.ref p) H'
section
variable {X:Cx}{o i e f value ek ev:Expr}{pos pos' apos cpos:Pos}{td ty tv tx tk:TE}
theorem r2_ {H:Hp}{ks:List (Mx Int)}{y:V}{u:Value} (h:IsK H ks y) (r:aV_ y u):∃b,y= .ref b/\u= .ref b:=by
 obtain⟨b,_,rfl,_⟩:=fV_ h.2;exact⟨b,rfl,r⟩
theorem oE_ (hu:X.A.units+2<cLine) (ho:PE X o td) (hi:PE X i ty) (hs:rb_ i):PE X (.Subscript o i pos) (rq_ X.prog X.w td ty):=by
 intro pins s σ H Q I h;refine hJ_ PySem.F.slot_dict_getitem.lookup hs (thn (ho pins s σ H _ I h) fun u s1 ⟨x,H1,I1,rx,q1⟩=>thn (hi pins s1 σ H1 _ I1 q1) fun iv s2 ⟨y,H2,I2,ry,a,kvs,ks,v,ex,d,k,l,q2⟩=> ?_);subst ex;obtain rfl:u=Value.ref a:=rx;obtain⟨b,rfl,rfl⟩:=r2_ k ry;exact⟨(sd_ I2 d).1,k7_ hu I2 d k l fun w' s3 I3 rw'=>⟨v,H2,I3,rw',q2⟩⟩
theorem kU_ (hu:X.A.units+2<cLine) (hi:PE X i ty) (ho:PE X o td):PC X .NotIn i o (od_ X.prog X.w ty td):=by
 intro pins s σ H Q I h;refine thn (hi pins s σ H _ I h) fun iv s1 ⟨y,H1,I1,ry,q1⟩=>thn (ho pins s1 σ H1 _ I1 q1) fun u s2 ⟨x,H2,I2,rx,a,kvs,ks,ex,d,k,q2⟩=> ?_;subst ex;obtain rfl:u=Value.ref a:=rx;obtain⟨b,rfl,rfl⟩:=r2_ k ry;exact oR_ hu I2 d k fun s3 I3=>⟨.bl _,H2,I3,rfl,q2⟩
theorem ov_ (hu:X.A.units+2<cLine) (ho:PE X o td) (hi:PE X i ty) (hv:PE X value tv) (hs:swapsWith value (some (.Subscript o i pos')) pos.line X.env=pure false):
  PS X (.Assign [.Subscript o i pos'] value pos) (rS_ X.prog X.w td ty tv):=by
 intro pins s σ H D I h;refine wpAny_Assign_Subscript (thn (hv pins s σ H _ I h) fun r s1 ⟨v,H1,I1,rv,q1⟩=>thn (ho pins s1 σ H1 _ I1 q1) fun u s2 ⟨x,H2,I2,rx,q2⟩=>thn (hi pins s2 σ H2 _ I2 q2) fun iv s3 ⟨y,H3,I3,ry,a,kvs,ks,ex,d,k,hl,q3⟩=> ?_) hs;subst ex;obtain rfl:u=Value.ref a:=rx;obtain⟨b,rfl,rfl⟩:=r2_ k ry;exact k6_ hu I3 d k hl rv fun H4 s4 d4 k4 I4=>⟨σ,H4,I4,q3 H4 d4 k4⟩
theorem m7_ {P:Program}{w:World}{H:Hp}{h:Heap}{p:Addr} (hp:p=h.objs.size) (hb:sysModules<h.objs.size):DM P w (upd H p (.ext (mE P w [] p))) p []:=by
 subst hp;exact⟨AK _,CP.mpr (D3 (AJ hb)),[], .nil,ae_⟩
theorem if_ {P:Program}{w:World}{H:Hp} (h:Heap):aH_ P w H (h.push {cls:= .type "dict",data:= .dict #[]}) h.objs.size (.ext (mE P w [] h.objs.size)):=
 qL_ ⟨_, #[],0,AE _ rfl,⟨rfl,rfl,rfl⟩,rfl,rfl,List.nodup_nil⟩
theorem oD_:PE X (.Dict [] [] pos) (rp_ X.prog X.w):=fun pins s σ H Q I h=>
 wpAny_Dict_empty ⟨.ref s.heap.objs.size,_,I.laid (a:=s.heap.objs.size) (o:= .ext (mE X.prog X.w [] s.heap.objs.size)) (t':=s.toks) (fun _ _ q=>A4 _ q) (A7 _) (if_ s.heap),rfl,h _ _ (I.hok.fresh (A7 _)) (m7_ rfl I.big) (fun b hb=>ak_ hb)⟩
end
end L2
namespace L2
open PySem PySem.Spec PyProof.Rows
section
variable {prog:Program}{w:World}{A:Around}{E:Value->Shared->Prop}{s:Shared}
theorem dK_ {it t:Addr}{i:Nat}{vs:Array Value}{x:Value}{Q:Value->Shared->Prop} (hit:s.heap.IsTupleIter it t i) (ht:s.heap.IsTuple t vs) (hx:vs[i]? =some x) (hQ:∀h',h'.IsTupleIter it t (i+1)->Heap.SameBut it s.heap h'->Q x {s with heap:=h'}):
  wpAny (model prog w) A (Builtin.SmallTypes.nextOf (.ref it)) Q E s:=by
 obtain⟨o,ho,hc,hd⟩:=id hit;obtain⟨q,hq,_,nq,hdq⟩:=ht;unfold Builtin.SmallTypes.nextOf;refine A0 (Ap (name:=Str.ofString "__next__") hit.typeIs CQ (AY CQ hit.typeIs F.entry_tuple_iterator_next ?_ (F.args_tuple_iterator_next_1 _)));show wpAny _ _ (field (.ref it) 0>>=_) _ _ s;refine A0 (BU ho hd (x:= .ref t) rfl ?_);show wpAny _ _ (if(Value.ref t==Value.none)=true then _ else _) _ _ s;rw [A9 (show¬((Value.ref t==Value.none)=true) from AM)];show wpAny _ _ (field (.ref it) 1>>=_) _ _ s;refine A0 (BU ho hd (x:= .int i 0) rfl ?_);show wpAny _ _ (seqItems? (.ref t)>>=_) _ _ s;refine A0 (Bd hq hdq ?_);simp only [Ai,hx];refine A0 (By ho hd (by simp) (A2 ⟨x,rfl,A2 (hQ _ ⟨_,C3 _ ho (D0 (Bg hd _)),(Obj.cls_mapFields ..).trans hc,by rw [Bg hd];simp [rawInt]⟩ (B0 ..))⟩))
theorem gS_ {it t:Addr}{i:Nat}{vs:Array Value}{Q:Value->Shared->Prop} (hh:A.handled=none) (hit:s.heap.IsTupleIter it t i) (ht:s.heap.IsTuple t vs) (hx:vs[i]? =none)
  (hE:∀h' e,Heap.ExtBut it s.heap h'->(∃o,h'.get? e=some o/\o.cls= .type "StopIteration")->E (.ref e) {s with heap:=h'}):wpAny (model prog w) A (Builtin.SmallTypes.nextOf (.ref it)) Q E s:=by
 obtain⟨o,ho,hc,hd⟩:=id hit;obtain⟨q,hq,_,nq,hdq⟩:=ht;unfold Builtin.SmallTypes.nextOf;refine A0 (Ap (name:=Str.ofString "__next__") hit.typeIs CQ (AY CQ hit.typeIs F.entry_tuple_iterator_next ?_ (F.args_tuple_iterator_next_1 _)));show wpAny _ _ (field (.ref it) 0>>=_) _ _ s;refine A0 (BU ho hd (x:= .ref t) rfl ?_);show wpAny _ _ (if(Value.ref t==Value.none)=true then _ else _) _ _ s;rw [A9 (show¬((Value.ref t==Value.none)=true) from AM)];show wpAny _ _ (field (.ref it) 1>>=_) _ _ s;refine A0 (BU ho hd (x:= .int i 0) rfl ?_);show wpAny _ _ (seqItems? (.ref t)>>=_) _ _ s;refine A0 (Bd hq hdq ?_);simp only [Ai,hx];refine A0 (D1 (A0 (By ho hd (by simp) ?_)));show wpAny _ _ (newExc (.type "StopIteration") []>>=_) _ _ _;refine A0 ?_;simp only [newExc,newTuple];refine A0 (Aj ?_ (by size_fits));refine A0 (m:=firstArgMember _ _) (D9 (a:=Value.none) (by first|rfl|(simp only [firstArgMember];rfl)) (Aj ?_ (by size_fits)));simp only [raiseNew];refine A0 (wpAny_handled ?_);(first|rw [show A.in1.handled=none from hh]|rw [hh]);exact A0 (A2 (wpAny_throw (hE _ _ (((B0 ..).extBut.push _).push _) ⟨_,AE _ rfl,rfl⟩)))
theorem nR_ (hh:A.handled=none) (it t:Addr) (hne:t≠it) (vs:Array Value):Draws prog w A it [it,t] vs.size (fun i v=>vs[i]? =some v) (fun i h=>h.IsTupleIter it t i/\h.IsTuple t vs) where
 live:=fun _ _ st=>let ⟨⟨o,ho,_⟩,_⟩:=st;⟨o,ho⟩
 frame:=fun _ _ _ ⟨st1,st2⟩ hk=>⟨st1.at fun o e=>hk it (by simp) o e,st2.at fun o e=>hk t (by simp) o e⟩
 item:=fun i s Q E hi ⟨st1,st2⟩ hQ=>dK_ st1 st2 (x:=vs[i]) (by simp [hi]) fun h' a b=>hQ _ h' s.toks (by simp [hi]) ⟨a,st2.extBut b.extBut hne⟩ b
 done:=fun s Q E ⟨st1,st2⟩ hE=>gS_ hh st1 st2 (by simp) hE
theorem j0_ {t:Addr}{vs:Array Value}{Q:Value->Shared->Prop} (hL:s.heap.IsTuple t vs)
  (h:∀h',IsEnum h' (s.heap.objs.size+1) s.heap.objs.size 0 .none->h'.IsTupleIter s.heap.objs.size t 0->h'.objs.size=s.heap.objs.size+2->(∀b o,s.heap.get? b=some o->h'.get? b=some o)->Q (.ref (s.heap.objs.size+1)) {s with heap:=h'}):
  wpAny (model prog w) A (call (.type "enumerate") [.ref t]) Q E s:=by
 have mt:Meets (Builtin.«enumerate.__new__» ⟨[.type "enumerate", .ref t],[]⟩) (fun _ R s=>s.heap.IsTuple t vs/\R (.ok (.ret (.ref (s.heap.push {cls:= .type "tuple_iterator",data:= .fields #[.ref t, .int 0 0]}).objs.size))) {s with heap:=(s.heap.push {cls:= .type "tuple_iterator",data:= .fields #[.ref t, .int 0 0]}).push {cls:= .type "enumerate",data:= .fields #[.none, .bool false, .ref s.heap.objs.size,rawInt 0, .none, .none]}}):=
  .of_wp fun prog w A R s h=>by
   obtain⟨hp,g,d,tk,os⟩:=s;obtain⟨hL,h⟩:=h;have hsub:=sub_enumerate;obtain⟨⟨c,dct,dt,sl⟩,hl,hc,n,hd⟩:=id hL;have hc:c= .type "tuple":=hc;have hd:dt= .seq vs n:=hd;subst hc hd
   wp_walk using AutoSeq1.wpAny_loadPart' hl
   refine wpAny_stack_any fun st=>A2 ?_;split
   .next c _ _ _ _ _=>cases (c==Value.type "enumerate")<;>(wp_walk using AutoSeq1.wpAny_loadPart' hl,Ck hL;exact⟨_,rfl,h⟩)
   .wp_walk using AutoSeq1.wpAny_loadPart' hl,Ck hL;exact⟨_,rfl,h⟩
 refine callType_new F.called_enumerate (by decide) (F.typeCall_enumerate_1 _) (F.newCall_enumerate_1 _) (fun obj=>F.args_object_init_2 obj _) F.entry_enumerate_new mt ⟨hL, ?_⟩;have hz:(s.heap.push {cls:= .type "tuple_iterator",data:= .fields #[.ref t, .int 0 0]}).objs.size=s.heap.objs.size+1:=Ar ..
 show _/\_;rw [hz];have he:=AE (s.heap.push {cls:= .type "tuple_iterator",data:= .fields #[.ref t, .int 0 0]}) (o:={cls:= .type "enumerate",data:= .fields #[.none, .bool false, .ref s.heap.objs.size,rawInt 0, .none, .none]}) rfl;rw [hz] at he;exact⟨⟨_,he,rfl⟩,h _ he ⟨_,A4 _ (AE _ rfl),rfl,rfl⟩ (by rw [Ar,hz]) fun b o x=>A4 _ (A4 _ x)⟩
end
def pl_ (K:W.Frag) (a:Addr):It:=
 ⟨fun i H=>∃xs x,SqT K H a xs/\xs[i]? =some x,fun i H v H'=>∃x p,(∀xs,SqT K H a xs->xs[i]? =some x)/\v= .ref p/\H p=none/\H'=upd H p (.tup [.int i,x]),fun i H=>∃xs,SqT K H a xs/\xs.length=i⟩
theorem ju_ {P:Program}{w:World}{K:W.Frag}{elts:List Expr}{k:Nat}{pos:Pos} (a e it:Addr) (hne:e≠it) (hai:a≠it) (hae:e≠a):
  Turn P w K (.Tuple elts k pos) (pl_ K a) [e,it] e (fun i h=>(∃old,IsEnum h e it (i:Nat) old)/\h.IsTupleIter it a i) where
 mem:=by simp
 obj:=fun i h st b hb=>by
  obtain⟨⟨old,h1⟩,o,h2,h3,h4⟩:=st;simp only [AI,Am,Bj] at hb;rcases hb with rfl|rfl
  .exact⟨_,h1,fun v y=>by cases y⟩
  .exact⟨o,h2,fun v y=>by rw [h4] at y;cases y⟩
 keep:=fun i h h' ⟨⟨old,z⟩,st2⟩ kk=>⟨⟨old,kk e (by simp) _ z⟩,st2.at fun o z=>kk it (by simp) o z⟩
 item:=by
  intro X hP hw hK hc i pins s σ H E I hf st hg;subst hP hw hK;obtain⟨xs,x,hq,hx⟩:=hg;obtain⟨its,rv,p,hz⟩:=I.tuple hq;obtain⟨u,hu,ru⟩:=rv.get hx;obtain⟨⟨old,he⟩,hit⟩:=st;have ltE:e<s.heap.objs.size:=AG he;have hlt:i<its.toArray.size:=by have:=(AD.mp hu).1;simpa using this
  refine wpAny_pyNext_enum_itemD (nR_ (A:=X.A.in1) (show X.A.in1.handled=none from I.ok.hd hc) it a hai its.toArray) he ⟨hit,p⟩ hlt hne (by simp [hne,hae]) fun x' h' tk px ho ⟨hit',_⟩ hT hsz hk=>⟨.ref s.heap.objs.size,rfl, ?_⟩;obtain rfl:x'=u:=by
   have px:its.toArray[i]? =some x':=px;have:its[i]? =some x':=by simpa using px
   rw [hu] at this;exact(Ac this).symm
  refine wpAny_letOwnedTupleGo_enum ho fun h2 he2 sb=> ?_;have k2:∀b o,b∉[e,it]->s.heap.get? b=some o->h2.get? b=some o:=fun b o n z=>by
   simp only [AI,Am,Bj,not_or] at n;exact(sb.2 b n.1).trans (hk b o n.1 n.2 z)
  have hT2:h2.get? s.heap.objs.size=some {cls:= .type "tuple",data:= .seq #[.int i tk,x']}:=(sb.2 _ (BQ ltE)).trans hT;refine⟨.ref s.heap.objs.size,upd H s.heap.objs.size (.tup [.int i,x]),I.turnNew (t':=tk+1) hf k2 ⟨by show 2<=sizeLine;decide,[.int i tk,x'], .cons ⟨_,rfl⟩ (.cons ru .nil),⟨_,hT2,rfl,_,rfl⟩⟩,rfl,⟨x,_,fun ys hy=>by rw [I.tuple_inj hy hq];exact hx,rfl,I.hok.fresh (A7 _),rfl⟩,⟨⟨x',by simpa using he2⟩,hit'.at fun o z=>(sb.2 it hne.symm).trans z⟩,fun b hb=> ?_⟩;have there:∃o,s.heap.get? b=some o:=by
   simp only [AI,Am,Bj] at hb;rcases hb with rfl|rfl
   .exact⟨_,he⟩
   .exact hit.imp fun o q=>q.1
  obtain⟨o,q⟩:=there;rw [ak_ (AJ (AG q))];exact(hf b hb).1
 done:=by
  intro X hP hw hK hc i pins s σ H E I hf st hg;subst hP hw hK;obtain⟨xs,hq,hx⟩:=hg;obtain⟨its,rv,p,hz⟩:=I.tuple hq;obtain⟨⟨old,he⟩,hit⟩:=st;have hl:=rv.length;obtain⟨f0,f1,f2,f3,f4,f5⟩:=hf it (by simp);have hn:i=its.toArray.size:=by simp;lia
  exact wpAny_pyNext_enum_endD (nR_ (A:=X.A.in1) (show X.A.in1.handled=none from I.ok.hd hc) it a hai its.toArray) he ⟨hn▸hit,p⟩ fun h' eb=>⟨rfl,I.turned (t':=s.toks) (fun b o hb z=>eb b o hb z) f0 f1 f3 f4 f5⟩
 self:=fun _ _ _ _ _ st h=>let ⟨⟨_,z⟩,_⟩:=st;wpAny_pyIter_enum z h
section
variable {X:Cx}{elts:List Expr}{k:Nat}{tpos p pos:Pos}{e:Expr}{te:TE}
def qC_ (K:W.Frag) (tl:TE):TI:=fun σ H R=>tl σ H fun x H1=>∃a,x= .ref a/\(∃xs,SqT K H1 a xs)/\R (pl_ K a) H1
theorem ec_ (hg:Gl X "enumerate") (hm:X.mg "enumerate"=none) (hl:PE X e te) (he:starEach [e] X.env=[(false,eval e X.env)]:=by rfl):PI X (.Tuple elts k tpos) (.Call (.Name "enumerate" p) [e] [] pos) (qC_ X.K te):=by
 intro pins s σ H R I h;refine B4 (cG_ I hg hm boot_enumerate ?_);refine B' (thn ((aa_ hl ab_ he) _ pins s σ H (fun vs H1=>match vs with|[x]=>(∃a,x= .ref a/\(∃xs,SqT X.K H1 a xs)/\R (pl_ X.K a) H1)|_=>False) I h) fun us s1 ⟨vs,H1,I1,r1,q1⟩=> ?_) he (by rfl)
 match vs,q1,r1 with
 |[x],q1,r1=>
 obtain⟨a,rfl,⟨xs,hq⟩,q⟩:=q1;obtain⟨u,rfl,ru⟩:=fD_ r1;obtain rfl:u=Value.ref a:=ru;obtain⟨its,rv,pl,hz⟩:=I1.tuple hq;have la:a<s1.heap.objs.size:=let ⟨_,q,_⟩:=pl;AG q;refine j0_ (show s1.heap.IsTuple a its.toArray from pl) fun h' hen hit hsz hk=> ?_;refine wpAny_pyIter_enum hen ?_;refine⟨_,[_,_],_,_,H1,rfl,I1.kept (t':=s1.toks) hk,ju_ a _ _ (BQ (BF _)) (AJ la) (BQ (AV la)),⟨⟨_,by simpa using hen⟩,hit⟩,fun b hb=> ?_,q⟩;have fr:∀b,s1.heap.objs.size<=b->hD_ X pins H1 b:=fun b z=>I1.fpOk z (I1.hok.fresh z);simp only [AI,Am,Bj] at hb;rcases hb with rfl|rfl<;>exact fr _ (by lia)
end
theorem eT_ {K:W.Frag}{a:Addr}{xs:List V}{g:TG}{tb:TS}{D:Ends}{σ:St}{H:Hp} (Pv:Nat->St->Hp->Prop) (h0:Pv 0 σ H) (hl:∀i σ H,i<=xs.length->Pv i σ H->SqT K H a xs)
  (hs:∀i x σ H p,xs[i]? =some x->Pv i σ H->H p=none->g (.ref p) σ (upd H p (.tup [.int i,x])) fun σ2 H2=>tb {D with nx:=Pv (i+1),ct:=Pv (i+1),bk:=D.nx} σ2 H2) (hd:∀σ H,Pv xs.length σ H->D.nx σ H):
  ∃Wq:Nat->Nat->St->Hp->Prop,(∃m,Wq 0 m σ H)/\∀i m σ H,Wq i m σ H->
   ((pl_ K a).stop i H/\D.nx σ H)\/((pl_ K a).go i H/\∃N:St->Hp->Prop,(∀σ' H',N σ' H'->∃m',m'<m/\Wq (i+1) m' σ' H')/\∀x H',(pl_ K a).yld i H x H'->g x σ H' fun σ2 H2=>tb {D with nx:=N,ct:=N,bk:=D.nx} σ2 H2):=by
 refine⟨fun i m σ H=>m=xs.length-i/\i<=xs.length/\Pv i σ H,⟨xs.length,by simp,AK _,h0⟩, ?_⟩;rintro i m σ H ⟨rfl,hi,p⟩;have q:=hl i σ H hi p;by_cases hlt:i<xs.length
 .refine .inr ⟨⟨xs,xs[i],q,by simp [hlt]⟩,Pv (i+1),fun σ' H' p'=>⟨xs.length-(i+1),by lia,rfl,hlt,p'⟩,fun x H' y=> ?_⟩;obtain⟨z,pp,e1,e2,e3,e4⟩:=y;subst e2 e4;exact hs i z σ H pp (e1 xs q) p e3
 .obtain rfl:i=xs.length:=by lia
  exact .inl ⟨⟨xs,q,rfl⟩,hd σ H p⟩
theorem jW_ {K:W.Frag}{a:Addr}{xs:List V}{own:Nat}{js:List Nat}{g:TG}{ti:TT}{te:TE}{σ:St}{H1:Hp}{acc:Addr}{Q:VK} (Pv:Nat->Hp->Prop) (h0:Pv 0 (upd H1 acc (.lst []))) (hl:∀i H2,i<=xs.length->Pv i H2->SqT K H2 a xs)
  (hs:∀i x H2 p,xs[i]? =some x->Pv i H2->H2 p=none->g (.ref p) (j4_ own js σ) (upd H2 p (.tup [.int i,x])) fun σ4 H4=>ti σ4 H4 fun b H5=>if b=true then te σ4 H5 fun y H6=>dE_ (.ref acc) [y] H6 fun _ H7=>Pv (i+1) H7 else Pv (i+1) H5) (hd:∀H2,Pv xs.length H2->Q (.ref acc) H2)
  (mono:∀σ H (R R':St->Hp->Prop) x,(∀σ' H',R σ' H'->R' σ' H')->g x σ H R->g x σ H R') (monoT:∀σ H (R R':Bool->Hp->Prop),(∀b H',R b H'->R' b H')->ti σ H R->ti σ H R') (monoE:∀σ H (R R':VK),(∀v H',R v H'->R' v H')->te σ H R->te σ H R'):
  l4_ (pl_ K a) own js g ti te σ H1 acc Q:=by
 refine⟨fun i m H2=>m=xs.length-i/\i<=xs.length/\Pv i H2,⟨xs.length,by simp,AK _,h0⟩, ?_⟩;rintro i m H2 ⟨rfl,hi,p⟩;have qa:=hl i H2 hi p;by_cases hlt:i<xs.length
 .refine .inr ⟨⟨xs,xs[i],qa,by simp [hlt]⟩,fun v H3 z=> ?_⟩;obtain⟨x,pp,e1,e3,e4,e5⟩:=z;subst e3 e5;refine mono _ _ _ _ _ (fun σ4 H4 q=>monoT _ _ _ _ (fun b H5 q=> ?_) q) (hs i x _ pp (e1 xs qa) p e4);cases b with
  |true=>
   refine monoE _ _ _ _ (fun v H6 q=> ?_) q;obtain⟨l,zs,y,a1,a2,a3,a4,a5⟩:=q;exact⟨l,zs,y,a1,a2,a3,a4,_,by lia,rfl,hlt,a5⟩
  |false=>exact⟨_,by lia,rfl,hlt,q⟩
 .obtain rfl:i=xs.length:=by lia
  exact .inl ⟨⟨xs,qa,rfl⟩,hd H2 p⟩
theorem jX_ {K:W.Frag}{a:Addr}{xs:List V}{own:Nat}{js:List Nat}{g:TG}{ti:TT}{te:TE}{σ:St}{H1:Hp}{acc:Addr}{Q:VK} (Pv:Nat->Hp->Prop) (h0:Pv 0 (upd H1 acc (.lst []))) (hl:∀i H2,i<=xs.length->Pv i H2->SqL K H2 a xs)
  (hs:∀i x H2 p,xs[i]? =some x->Pv i H2->H2 p=none->g (.ref p) (j4_ own js σ) (upd H2 p (.tup [.int i,x])) fun σ4 H4=>ti σ4 H4 fun b H5=>if b=true then te σ4 H5 fun y H6=>dE_ (.ref acc) [y] H6 fun _ H7=>Pv (i+1) H7 else Pv (i+1) H5) (hd:∀H2,Pv xs.length H2->Q (.ref acc) H2)
  (mono:∀σ H (R R':St->Hp->Prop) x,(∀σ' H',R σ' H'->R' σ' H')->g x σ H R->g x σ H R') (monoT:∀σ H (R R':Bool->Hp->Prop),(∀b H',R b H'->R' b H')->ti σ H R->ti σ H R') (monoE:∀σ H (R R':VK),(∀v H',R v H'->R' v H')->te σ H R->te σ H R'):
  l4_ (Ite K a) own js g ti te σ H1 acc Q:=by
 refine⟨fun i m H2=>m=xs.length-i/\i<=xs.length/\Pv i H2,⟨xs.length,by simp,AK _,h0⟩, ?_⟩;rintro i m H2 ⟨rfl,hi,p⟩;have qa:=hl i H2 hi p;by_cases hlt:i<xs.length
 .refine .inr ⟨⟨xs,xs[i],qa,by simp [hlt]⟩,fun v H3 z=> ?_⟩;obtain⟨x,pp,e1,e3,e4,e5⟩:=z;subst e3 e5;refine mono _ _ _ _ _ (fun σ4 H4 q=>monoT _ _ _ _ (fun b H5 q=> ?_) q) (hs i x _ pp (e1 xs qa) p e4);cases b with
  |true=>
   refine monoE _ _ _ _ (fun v H6 q=> ?_) q;obtain⟨l,zs,y,a1,a2,a3,a4,a5⟩:=q;exact⟨l,zs,y,a1,a2,a3,a4,_,by lia,rfl,hlt,a5⟩
  |false=>exact⟨_,by lia,rfl,hlt,q⟩
 .obtain rfl:i=xs.length:=by lia
  exact .inl ⟨⟨xs,qa,A7 _⟩,hd H2 p⟩
theorem hk_ {X:Cx} (hc:X.calm=true):b8_ X (.builtin "sum") (fun xs H Q=>∃(p:Addr) (ns:List Int),xs=[.ref p]/\SqT X.K H p (ns.map V.int)/\Q (.int ns.sum) H):=by
 intro pins s σ H xs us Q I r h;obtain⟨p,ns,rfl,hq,q⟩:=h;obtain⟨u,rfl,rx⟩:=fD_ r;cases rx;obtain⟨its,r',pl,hz⟩:=I.tuple hq;have hi:IntsAre its ns:=ft_ r';obtain⟨ys,e⟩:=hi.allInts.items;have hl:s.heap.IsTuple p its.toArray:=pl;rw [e] at hl;have n1:=hi.numsOf;rw [show its=its.toArray.toList from rfl,e,nums_intItems] at n1;have lt:p<s.heap.objs.size:=let ⟨_,q,_⟩:=hl;AG q;refine call_sum_walkG (Ck hl ?_);refine⟨_,_,_,_,_,_,numAt ys,rfl,Walks.tuple (A:=X.A.in1) (show X.A.in1.handled=none from I.ok.hd hc) _ p (AJ lt) (intItems ys),⟨⟨_,AE _ rfl,rfl,rfl⟩,hl.push _⟩,fun b hb=> ?_,fun _ _=>intItems_at,fun h' tk t' hk=> ?_⟩
 .simp only [AI,Am,Bj] at hb;rw [Ar];rcases hb with rfl|rfl
  .exact BF _
  .exact AV lt
 .refine⟨.int ns.sum,H,I.kept fun b o z=>hk b o (fun y=> ?_) (A4 _ z),⟨t', ?_⟩,q⟩
  .simp only [AI,Am,Bj] at y;exact absurd (AG z) (by rw [y];exact Bo _)
  .rw [preSum_eq,List.take_of_length_le (by simp [intItems]),n1]
section
variable {prog:Program}{w:World}{A:Around}{E:Value->Shared->Prop}{s:Shared}
theorem j5_ {z TI TO i1 i2 l1 l2:Addr}{k1 k2:Nat}{xs ys:Array Value}{x y a b:Value}{Q:Option Value->Shared->Prop} (D:ZipApart z TI TO i1 i2 l1 l2) (hz:IsZip s.heap z TI TO .none) (hTI:IsPair s.heap TI (.ref i1) (.ref i2)) (hTO:IsPair s.heap TO a b)
  (h1:s.heap.IsTupleIter i1 l1 k1) (h2:s.heap.IsTupleIter i2 l2 k2) (hl1:s.heap.IsTuple l1 xs) (hl2:s.heap.IsTuple l2 ys) (hx:xs[k1]? =some x) (hy:ys[k2]? =some y)
  (hQ:∀h',IsZip h' z TI TO (rawInt s.heap.objs.size)->IsPair h' TO x y->h'.IsTupleIter i1 l1 (k1+1)->h'.IsTupleIter i2 l2 (k2+1)->IsPair h' s.heap.objs.size x y->h'.objs.size=s.heap.objs.size+1->(∀c o,c≠z->c≠TO->c≠i1->c≠i2->s.heap.get? c=some o->h'.get? c=some o)->Q (some (.ref s.heap.objs.size)) {s with heap:=h'}):
  wpAny (model prog w) A (pyNext (.ref z)) Q E s:=by
 have hT:s.TypeIs (.ref z) "zip":=⟨_,hz,rfl⟩;unfold pyNext;refine A0 (C9 (Ap (name:=Str.ofString "__next__") hT F.slot_zip_next (AY F.slot_zip_next hT F.entry_zip_next ?_ (F.args_zip_next_1 _))));show wpAny _ _ (field (.ref z) 2>>=_) _ _ _;refine A0 (BU hz rfl (x:= .bool false) rfl ?_);show wpAny _ _ (field (.ref z) 3>>=_) _ _ _;refine A0 (BU hz rfl (x:= .ref TI) rfl (A0 (Bd hTI rfl ?_)));show wpAny _ _ (Builtin.SmallTypes.ownedTupleIsFree (.ref z)>>=_) _ _ _;refine A0 ?_;unfold Builtin.SmallTypes.ownedTupleIsFree;refine A0 (BU hz rfl (x:= .none) rfl (A2 ?_));simp only [Bz];refine A0 (D1 (A0 (BU hz rfl (x:= .ref TO) rfl (A0 (Cj hz (by simp) fun a1 hz1 s1=> ?_)))));have hz1:IsZip a1 z TI TO .ellipsis:=hz1;refine A0 ?_;simp only [List.zipIdx_cons,List.zipIdx_nil,List.forIn_cons,List.forIn_nil];refine A0 (A0 (wpAny_onRaise ?_));show wpAny _ _ (Builtin.SmallTypes.nextOf (.ref i1)>>=_) _ _ _;refine A0 (dK_ (h1.extBut s1.extBut D.i1z) (hl1.extBut s1.extBut D.l1z) hx fun a2 g1 s2=>A2 ?_);have o2:IsPair a2 TO a b:=s2.extBut _ _ D.TOi1 (s1.extBut _ _ D.TOz hTO);refine A0 (Bd o2 rfl (A0 (wpAny_updateSeq_pair o2 fun a3 o3 s3=> ?_)));have o3:IsPair a3 TO x b:=o3;refine A0 (wpAny_letGo (A2 ?_));refine A0 (A0 (wpAny_onRaise ?_));show wpAny _ _ (Builtin.SmallTypes.nextOf (.ref i2)>>=_) _ _ _;refine A0 (dK_ (((h2.extBut s1.extBut D.i2z).extBut s2.extBut D.i12.symm).extBut s3.extBut D.TOi2.symm) (((hl2.extBut s1.extBut D.l2z).extBut s2.extBut D.l2i1).extBut s3.extBut D.l2TO) hy fun a4 g2 s4=>A2 ?_);have o4:IsPair a4 TO x b:=s4.extBut _ _ D.TOi2 o3;refine A0 (Bd o4 rfl (A0 (wpAny_updateSeq_pair o4 fun a5 o5 s5=> ?_)));have o5:IsPair a5 TO x y:=o5;refine A0 (wpAny_letGo (A2 (A2 ?_)));refine A0 (Bd o5 rfl (A0 (wpAny_newTuple ?_)));have sz:a5.objs.size=s.heap.objs.size:=by rw [s5.1,s4.1,s3.1,s2.1,s1.1]
 have z5:IsZip a5 z TI TO .ellipsis:=s5.extBut _ _ D.TOz.symm (s4.extBut _ _ D.i2z.symm (s3.extBut _ _ D.TOz.symm (s2.extBut _ _ D.i1z.symm hz1)));have k5:∀c o,c≠z->c≠TO->c≠i1->c≠i2->s.heap.get? c=some o->a5.get? c=some o:=fun c o c1 c2 c3 c4 e=>s5.extBut _ _ c2 (s4.extBut _ _ c4 (s3.extBut _ _ c2 (s2.extBut _ _ c3 (s1.extBut _ _ c1 e))));have m1:a5.IsTupleIter i1 l1 (k1+1):=((g1.extBut s3.extBut D.TOi1.symm).extBut s4.extBut D.i12).extBut s5.extBut D.TOi1.symm;have m2:a5.IsTupleIter i2 l2 (k2+1):=g2.extBut s5.extBut D.TOi2.symm;have zl:z<a5.objs.size:=AG z5;show wpAny _ _ (Builtin.SmallTypes.ownedTupleHandOut (.ref z) (.ref a5.objs.size)>>=_) _ _ _;refine A0 ?_;unfold Builtin.SmallTypes.ownedTupleHandOut;have z6:IsZip (a5.push {cls:= .type "tuple",data:= .seq #[x,y]}) z TI TO .ellipsis:=A4 _ z5;refine A0 (Cj z6 (by simp) fun a7 z7 s7=> ?_);have z7:IsZip a7 z TI TO (rawInt a5.objs.size):=z7;refine Cj z7 (by simp) fun a8 z8 s8=> ?_;have z8:IsZip a8 z TI TO (rawInt a5.objs.size):=z8;have up:∀c o,c≠z->a5.get? c=some o->a8.get? c=some o:=fun c o c1 e=>s8.extBut _ _ c1 (s7.extBut _ _ c1 (A4 _ e));have t8:IsPair a8 a5.objs.size x y:=s8.extBut _ _ (BQ zl) (s7.extBut _ _ (BQ zl) (AE _ rfl));have e8:a8.objs.size=a5.objs.size+1:=by rw [s8.1,s7.1,Ar]
 rw [sz] at z8 t8 e8;refine A2 ⟨_,rfl,A2 ?_⟩;show Q (some (.ref a5.objs.size)) _;rw [sz];exact hQ a8 z8 (up _ _ D.TOz o5) (m1.at fun o e=>up _ o D.i1z e) (m2.at fun o e=>up _ o D.i2z e) t8 e8 fun c o c1 c2 c3 c4 e=>up c o c1 (k5 c o c1 c2 c3 c4 e)
theorem ma_ {z TI TO i1 i2 l1 l2:Addr}{k1:Nat}{xs:Array Value}{a b:Value}{Q:Option Value->Shared->Prop} (hh:A.handled=none) (D:ZipApart z TI TO i1 i2 l1 l2) (hz:IsZip s.heap z TI TO .none) (hTI:IsPair s.heap TI (.ref i1) (.ref i2)) (hTO:IsPair s.heap TO a b)
  (h1:s.heap.IsTupleIter i1 l1 k1) (hl1:s.heap.IsTuple l1 xs) (hx:xs[k1]? =none) (hQ:∀h',(∀c o,c≠z->c≠TO->c≠i1->c≠i2->s.heap.get? c=some o->h'.get? c=some o)->Q none {s with heap:=h'}):wpAny (model prog w) A (pyNext (.ref z)) Q E s:=by
 have hT:s.TypeIs (.ref z) "zip":=⟨_,hz,rfl⟩;unfold pyNext;refine A0 (C9 (Ap (name:=Str.ofString "__next__") hT F.slot_zip_next (AY F.slot_zip_next hT F.entry_zip_next ?_ (F.args_zip_next_1 _))));show wpAny _ _ (field (.ref z) 2>>=_) _ _ _;refine A0 (BU hz rfl (x:= .bool false) rfl ?_);show wpAny _ _ (field (.ref z) 3>>=_) _ _ _;refine A0 (BU hz rfl (x:= .ref TI) rfl (A0 (Bd hTI rfl ?_)));show wpAny _ _ (Builtin.SmallTypes.ownedTupleIsFree (.ref z)>>=_) _ _ _;refine A0 ?_;unfold Builtin.SmallTypes.ownedTupleIsFree;refine A0 (BU hz rfl (x:= .none) rfl (A2 ?_));simp only [Bz];refine A0 (D1 (A0 (BU hz rfl (x:= .ref TO) rfl (A0 (Cj hz (by simp) fun a1 hz1 s1=> ?_)))));have hz1:IsZip a1 z TI TO .ellipsis:=hz1;refine A0 ?_;simp only [List.zipIdx_cons,List.zipIdx_nil,List.forIn_cons,List.forIn_nil];refine A0 (A0 (wpAny_onRaise ?_));show wpAny _ _ (Builtin.SmallTypes.nextOf (.ref i1)>>=_) _ _ _;refine A0 (gS_ hh (h1.extBut s1.extBut D.i1z) (hl1.extBut s1.extBut D.l1z) hx fun a2 e s2 he=> ?_);obtain⟨oe,hoe,hce⟩:=he;have z2:IsZip a2 z TI TO .ellipsis:=s2 _ _ D.i1z.symm hz1;have ez:e≠z:=fun x=>by subst x;rw [z2] at hoe;cases hoe;simp at hce
 refine Cj z2 (by simp) fun a3 _ s3=> ?_;refine A0 (Bt (T:="StopIteration") (b:=true) ⟨oe,s3.extBut _ _ ez hoe,hce⟩ isSubtype_stop (A2 (hQ _ fun c o c1 _ c3 _ x=>s3.extBut _ _ c1 (s2 _ _ c3 (s1.extBut _ _ c1 x)))))
end
section
variable {prog:Program}{w:World}{A:Around}{E:Value->Shared->Prop}{s:Shared}
abbrev tz1 (h:Heap) (a:Addr):Heap:=h.push {cls:= .type "tuple_iterator",data:= .fields #[.ref a, .int 0 0]}
abbrev tz2 (h:Heap) (a b:Addr):Heap:=(tz1 h a).push {cls:= .type "tuple_iterator",data:= .fields #[.ref b, .int 0 0]}
abbrev tz3 (h:Heap) (a b:Addr):Heap:=(tz2 h a b).push {cls:= .type "tuple",data:= .seq #[.ref h.objs.size, .ref (tz1 h a).objs.size]}
abbrev tz4 (h:Heap) (a b:Addr):Heap:=(tz3 h a b).push {cls:= .type "tuple",data:= .seq #[.none, .none]}
abbrev tz5 (h:Heap) (a b:Addr):Heap:=(tz4 h a b).push {cls:= .type "zip",data:= .fields #[.none, .bool false, .bool false, .ref (tz2 h a b).objs.size, .ref (tz3 h a b).objs.size]}
theorem lV_ {a b:Addr}{xs ys:Array Value}{Q:Value->Shared->Prop} (ha:s.heap.IsTuple a xs) (hb:s.heap.IsTuple b ys)
  (h:∀h',IsZip h' (s.heap.objs.size+4) (s.heap.objs.size+2) (s.heap.objs.size+3) .none->IsPair h' (s.heap.objs.size+2) (.ref s.heap.objs.size) (.ref (s.heap.objs.size+1))->IsPair h' (s.heap.objs.size+3) .none .none->h'.IsTupleIter s.heap.objs.size a 0->h'.IsTupleIter (s.heap.objs.size+1) b 0->(∀c o,s.heap.get? c=some o->h'.get? c=some o)->Q (.ref (s.heap.objs.size+4)) {s with heap:=h'}):
  wpAny (model prog w) A (call (.type "zip") [.ref a, .ref b]) Q E s:=by
 have mt:Meets (Builtin.«zip.__new__» ⟨[.type "zip", .ref a, .ref b],[]⟩) (fun _ R s=>s.heap.IsTuple a xs/\s.heap.IsTuple b ys/\R (.ok (.ret (.ref (tz4 s.heap a b).objs.size))) {s with heap:=tz5 s.heap a b}):=
  .of_wp fun prog w A R s h=>by
   obtain⟨hp,g,d,tk,os⟩:=s;obtain⟨h1,h2,h⟩:=h;have hsub:=sub_zip;have hL1:Heap.IsTuple (Shared.heap ⟨hp,g,d,tk,os⟩) a xs:=h1;have hL2:Heap.IsTuple (Shared.heap ⟨hp.push {cls:= .type "tuple_iterator",data:= .fields #[.ref a, .int 0 0]},g,d,tk,os⟩) b ys:=Heap.IsTuple.push h2 _
   wp_walk using wpAny_pyIter_tuple hL1,Ck hL2
   exact⟨_,rfl,h⟩
 refine callType_new F.called_zip (by decide) (F.typeCall_zip_2 _ _) (F.newCall_zip_2 _ _) (fun obj=>F.args_object_init_3 obj _ _) F.entry_zip_new mt ⟨ha,hb, ?_⟩;have z1:(tz1 s.heap a).objs.size=s.heap.objs.size+1:=Ar ..
 have z2:(tz2 s.heap a b).objs.size=s.heap.objs.size+2:=by rw [Ar,z1]
 have z3:(tz3 s.heap a b).objs.size=s.heap.objs.size+3:=by rw [Ar,z2]
 have z4:(tz4 s.heap a b).objs.size=s.heap.objs.size+4:=by rw [Ar,z3]
 have g5:(tz5 s.heap a b).get? (tz4 s.heap a b).objs.size=some _:=AE _ rfl;have g4:(tz5 s.heap a b).get? (tz3 s.heap a b).objs.size=some _:=A4 _ (AE _ rfl);have g3:(tz5 s.heap a b).get? (tz2 s.heap a b).objs.size=some _:=A4 _ (A4 _ (AE _ rfl));have g2:(tz5 s.heap a b).get? (tz1 s.heap a).objs.size=some _:=A4 _ (A4 _ (A4 _ (AE _ rfl)));have g1:(tz5 s.heap a b).get? s.heap.objs.size=some _:=A4 _ (A4 _ (A4 _ (A4 _ (AE _ rfl))));show _/\_;rw [z2,z3,z4] at g5;rw [z1,z2] at g3;rw [z3] at g4;rw [z1] at g2;rw [z4];exact⟨⟨_,g5,rfl⟩,h _ g5 g3 g4 ⟨_,g1,rfl,rfl⟩ ⟨_,g2,rfl,rfl⟩ fun c o x=>A4 _ (A4 _ (A4 _ (A4 _ (A4 _ x))))⟩
end
def ItzT (K : W.Frag) (a b : Addr) : It :=
  ⟨fun i H => ∃ xs x ys y, SqT K H a xs /\ SqT K H b ys /\ xs[i]? = some x /\ ys[i]? = some y,
   fun i H v H' => ∃ x y p, (∀ xs, SqT K H a xs -> xs[i]? = some x) /\ (∀ ys, SqT K H b ys -> ys[i]? = some y) /\ v = .ref p /\ H p = none /\ H' = upd H p (.tup [x, y]),
   fun i H => ∃ xs, SqT K H a xs /\ xs.length <= i⟩
theorem kf_ {P:Program}{w:World}{K:W.Frag}{elts:List Expr}{k:Nat}{pos:Pos}{z TI TO i1 i2 a b:Addr} (D:ZipApart z TI TO i1 i2 a b):
  Turn P w K (.Tuple elts k pos) (ItzT K a b) [z,TI,TO,i1,i2] z (fun i h=>IsZip h z TI TO .none/\IsPair h TI (.ref i1) (.ref i2)/\(∃x y,IsPair h TO x y)/\h.IsTupleIter i1 a i/\h.IsTupleIter i2 b i) where
 mem:=by simp
 obj:=fun i h st c hc=>by
  obtain⟨h1,h2,⟨x,y,h3⟩,⟨o4,h4,_,d4⟩,⟨o5,h5,_,d5⟩⟩:=st;simp only [AI,Am,Bj] at hc;rcases hc with rfl|rfl|rfl|rfl|rfl
  .exact⟨_,h1,fun v q=>by cases q⟩
  .exact⟨_,h2,fun v q=>by cases q⟩
  .exact⟨_,h3,fun v q=>by cases q⟩
  .exact⟨_,h4,fun v q=>by rw [d4] at q;cases q⟩
  .exact⟨_,h5,fun v q=>by rw [d5] at q;cases q⟩
 keep:=fun i h h' st kk=>⟨kk z (by simp) _ st.1,kk TI (by simp) _ st.2.1,st.2.2.1.imp fun x q=>q.imp fun y q=>kk TO (by simp) _ q,st.2.2.2.1.at fun o q=>kk i1 (by simp) o q,st.2.2.2.2.at fun o q=>kk i2 (by simp) o q⟩
 item:=by
  intro X hP hw hK hc i pins s σ H E I hf st hg;subst hP hw hK;obtain⟨xs,x,ys,y,hqa,hqb,hx,hy⟩:=hg;obtain⟨as,ra,pa,za⟩:=I.tuple hqa;obtain⟨bs,rb,pb,zb⟩:=I.tuple hqb;obtain⟨u,hu,ru⟩:=ra.get hx;obtain⟨v,hv,rv⟩:=rb.get hy;obtain⟨hz,hTI,⟨_,_,hTO⟩,h1,h2⟩:=st;have ltz:z<s.heap.objs.size:=AG hz;refine j5_ D hz hTI hTO h1 h2 (show s.heap.IsTuple a as.toArray from pa) (show s.heap.IsTuple b bs.toArray from pb) (x:=u) (y:=v) (by simpa using hu) (by simpa using hv) fun h' hz' hTO' h1' h2' hT hsz hk=>⟨.ref s.heap.objs.size,rfl, ?_⟩;refine wpAny_letOwnedTupleGo_zip hz' fun h3 hz3 sb=> ?_;have kk:∀c o,c∉[z,TI,TO,i1,i2]->s.heap.get? c=some o->h3.get? c=some o:=fun c o n e=>by
   simp only [AI,Am,Bj,not_or] at n;exact(sb.2 c n.1).trans (hk c o n.1 n.2.2.1 n.2.2.2.1 n.2.2.2.2 e)
  have hT3:h3.get? s.heap.objs.size=some {cls:= .type "tuple",data:= .seq #[u,v]}:=(sb.2 _ (BQ ltz)).trans hT;have hTI3:IsPair h3 TI (.ref i1) (.ref i2):=(sb.2 _ D.TIz).trans (hk _ _ D.TIz D.TITO D.TIi1 D.TIi2 hTI);refine⟨.ref s.heap.objs.size,upd H s.heap.objs.size (.tup [x,y]),I.turnNew (t':=s.toks) hf kk ⟨by show 2<=sizeLine;decide,[u,v], .cons ru (.cons rv .nil),⟨_,hT3,rfl,_,rfl⟩⟩,rfl,
   ⟨x,y,_,fun zs hy'=>by rw [I.tuple_inj hy' hqa];exact hx,fun zs hy'=>by rw [I.tuple_inj hy' hqb];exact hy,rfl,I.hok.fresh (A7 _),rfl⟩,
   ⟨hz3,hTI3,⟨_,_,(sb.2 _ D.TOz).trans hTO'⟩,h1'.at fun o q=>(sb.2 _ D.i1z).trans q,h2'.at fun o q=>(sb.2 _ D.i2z).trans q⟩,fun c hc=> ?_⟩
  have there:∃o,s.heap.get? c=some o:=by
   simp only [AI,Am,Bj] at hc;rcases hc with rfl|rfl|rfl|rfl|rfl
   .exact⟨_,hz⟩
   .exact⟨_,hTI⟩
   .exact⟨_,hTO⟩
   .exact h1.imp fun o q=>q.1
   .exact h2.imp fun o q=>q.1
  obtain⟨o,q⟩:=there;rw [ak_ (AJ (AG q))];exact(hf c hc).1
 done:=by
  intro X hP hw hK hc i pins s σ H E I hf st hg;subst hP hw hK;obtain⟨xs,hqa,hx⟩:=hg;obtain⟨as,ra,pa,za⟩:=I.tuple hqa;obtain⟨hz,hTI,⟨_,_,hTO⟩,h1,h2⟩:=st;have la:=ra.length;refine ma_ (I.ok.hd hc) D hz hTI hTO h1 (show s.heap.IsTuple a as.toArray from pa) (by simp;lia) fun h' hk=>⟨rfl,I.turnAll (t':=s.toks) hf fun c o n e=> ?_⟩;simp only [AI,Am,Bj,not_or] at n;exact hk c o n.1 n.2.2.1 n.2.2.2.1 n.2.2.2.2 e
 self:=fun _ _ _ _ _ st h=>wpAny_pyIter_zip st.1 h
section
variable {X:Cx}{elts:List Expr}{k:Nat}{tpos p pos:Pos}{e f:Expr}{te tf:TE}
def r6_ (K:W.Frag) (ta:TA):TI:=fun σ H R=>ta σ H fun vs H1=>∃a b,vs=[.ref a, .ref b]/\(∃xs,SqT K H1 a xs)/\(∃ys,SqT K H1 b ys)/\R (ItzT K a b) H1
theorem oy_ {ta:TA} (hg:Gl X "zip") (hm:X.mg "zip"=none) (hl:PA X [e,f] ta) (he:starEach [e,f] X.env=(false,eval e X.env)::starEach [f] X.env:=by rfl) (hp:(backTo pos (starEach [f] X.env)).any (·.1)=false:=by rfl):
  PI X (.Tuple elts k tpos) (.Call (.Name "zip" p) [e,f] [] pos) (r6_ X.K ta):=by
 intro pins s σ H R I h;refine B4 (cG_ I hg hm PyProof.Rows.Boot.«zip» ?_);refine B' (thn (hl _ pins s σ H _ I h) fun us s1 ⟨vs,H1,I1,r1,a,b,ev,⟨xs,hqa⟩,⟨ys,hqb⟩,q⟩=> ?_) he hp;subst ev;obtain⟨u,v,rfl,ru,rv⟩:=kd_ r1;obtain rfl:u=Value.ref a:=ru;obtain rfl:v=Value.ref b:=rv;obtain⟨as,ra,pa,za⟩:=I1.tuple hqa;obtain⟨bs,rb,pb,zb⟩:=I1.tuple hqb;have la:a<s1.heap.objs.size:=let ⟨_,q,_⟩:=pa;AG q;have lb:b<s1.heap.objs.size:=let ⟨_,q,_⟩:=pb;AG q;refine lV_ (show s1.heap.IsTuple a as.toArray from pa) (show s1.heap.IsTuple b bs.toArray from pb) fun h' hz hTI hTO h1 h2 hk=> ?_;refine wpAny_pyIter_zip hz ?_;refine⟨_,[_,_,_,_,_],_,_,H1,rfl,I1.kept (t':=s1.toks) hk,kf_ (zipApart_new la lb),⟨hz,hTI,⟨_,_,hTO⟩,h1,h2⟩,fun c hc=> ?_,q⟩;have fr:∀c,s1.heap.objs.size<=c->hD_ X pins H1 c:=fun c z=>I1.fpOk z (I1.hok.fresh z);simp only [AI,Am,Bj] at hc;rcases hc with rfl|rfl|rfl|rfl|rfl<;>exact fr _ (by lia)
end
theorem m4_ {K:W.Frag}{a b:Addr}{xs ys:List V}{g:TG}{tb:TS}{D:Ends}{σ:St}{H:Hp} (hn:xs.length=ys.length) (Pv:Nat->St->Hp->Prop) (h0:Pv 0 σ H) (hl:∀i σ H,i<=xs.length->Pv i σ H->SqT K H a xs/\SqT K H b ys)
  (hs:∀i x y σ H p,xs[i]? =some x->ys[i]? =some y->Pv i σ H->H p=none->g (.ref p) σ (upd H p (.tup [x,y])) fun σ2 H2=>tb {D with nx:=Pv (i+1),ct:=Pv (i+1),bk:=D.nx} σ2 H2) (hd:∀σ H,Pv xs.length σ H->D.nx σ H):
  ∃Wq:Nat->Nat->St->Hp->Prop,(∃m,Wq 0 m σ H)/\∀i m σ H,Wq i m σ H->
   ((ItzT K a b).stop i H/\D.nx σ H)\/((ItzT K a b).go i H/\∃N:St->Hp->Prop,(∀σ' H',N σ' H'->∃m',m'<m/\Wq (i+1) m' σ' H')/\∀x H',(ItzT K a b).yld i H x H'->g x σ H' fun σ2 H2=>tb {D with nx:=N,ct:=N,bk:=D.nx} σ2 H2):=by
 refine⟨fun i m σ H=>m=xs.length-i/\i<=xs.length/\Pv i σ H,⟨xs.length,by simp,AK _,h0⟩, ?_⟩;rintro i m σ H ⟨rfl,hi,p⟩;obtain⟨qa,qb⟩:=hl i σ H hi p;by_cases hlt:i<xs.length
 .have ly:i<ys.length:=by lia
  refine .inr ⟨⟨xs,xs[i],ys,ys[i],qa,qb,by simp [hlt],by simp [ly]⟩,Pv (i+1),fun σ' H' p'=>⟨xs.length-(i+1),by lia,rfl,hlt,p'⟩,fun v H' z=> ?_⟩;obtain⟨x,y,pp,e1,e2,e3,e4,e5⟩:=z;subst e3 e5;exact hs i x y σ H pp (e1 xs qa) (e2 ys qb) p e4
 .obtain rfl:i=xs.length:=by lia
  exact .inl ⟨⟨xs,qa,A7 _⟩,hd σ H p⟩
def rn_ (K:W.Frag) (ta:TE):TE:=fun σ H Q=>ta σ H fun x H1=>∃p xs,x= .ref p/\SqL K H1 p xs/\Q (.bl xs.isEmpty) H1
theorem oC_ {X:Cx}{a:Expr}{ta:TE}{pos:Pos} (ha:PE X a ta):PE X (.UnaryOp .Not a pos) (rn_ X.K ta):=by
 intro pins s σ H Q I h;refine UnaryOp_ (thn (ha pins s σ H _ I h) fun v s1 ⟨x,H1,I1,r1,q1⟩=> ?_);obtain⟨p,xs,rfl,hx,q⟩:=q1;cases r1;obtain⟨its,r,pl,hz⟩:=I1.list hx;have hlen:=r.length;have hn:=eK_;exact not_of (wpAny_truthy_list pl.isList (by simp only [AC];lia) ⟨.bl xs.isEmpty,H1,I1.tok _,by rw [dR_ r,Bool.not_not];rfl,q⟩)
end L2
namespace Mine
open PySem L2 PyProof.Rows
def top (i:Nat):Stmt:=PySem.Challenge.pw_floorcurves_k48_ends_refused.main.body.getD i (.Pass ⟨0,0,0,0⟩)
abbrev dA_:Stmt:=top 9
theorem hM_:FnScope ["thing"] ["thing"] (ag_ dA_):=⟨rfl,rfl,rfl,by ac_nf,rfl,by ac_nf,by ac_nf⟩
abbrev bU_:Stmt:=top 10
theorem em_:FnScope ["thing","least","greatest"] ["thing","least","greatest"] (ag_ bU_):=⟨rfl,rfl,rfl,by ac_nf,rfl,by ac_nf,by ac_nf⟩
abbrev cZ_:Stmt:=top 11
theorem gG_:FnScope ["d","k"] ["d","k"] (ag_ cZ_):=⟨rfl,rfl,rfl,by ac_nf,rfl,by ac_nf,by ac_nf⟩
abbrev cc_:Stmt:=top 12
theorem e8_:FnScope ["d"] ["d"] (ag_ cc_):=⟨rfl,rfl,rfl,by ac_nf,rfl,by ac_nf,by ac_nf⟩
abbrev fJ_:Stmt:=top 14
theorem dg_:FnScope ["number","chosen","found","place"] ["number","chosen"] (ag_ fJ_):=⟨rfl,rfl,rfl,by ac_nf,rfl,by ac_nf,by ac_nf⟩
abbrev fI_:Stmt:=top 16
theorem gI_:FnScope ["thing","number"] ["thing"] (ag_ fI_):=⟨rfl,rfl,rfl,by ac_nf,rfl,by ac_nf,by ac_nf⟩
abbrev br_:Stmt:=top 17
theorem df_:FnScope ["row"] ["row"] (ag_ br_):=⟨rfl,rfl,rfl,by ac_nf,rfl,by ac_nf,by ac_nf⟩
abbrev c0_:Stmt:=top 18
theorem gH_:FnScope ["d","held","free"] ["d","held","free"] (ag_ c0_):=⟨rfl,rfl,rfl,by ac_nf,rfl,by ac_nf,by ac_nf⟩
abbrev cs_:Stmt:=top 19
theorem by_:FnScope ["row","found","place","number"] ["row"] (ag_ cs_):=⟨rfl,rfl,rfl,by ac_nf,rfl,by ac_nf,by ac_nf⟩
abbrev cY_:Stmt:=top 21
theorem gF_:FnScope ["numbers","place","more"] ["numbers","place","more"] (ag_ cY_):=⟨rfl,rfl,rfl,by ac_nf,rfl,by ac_nf,by ac_nf⟩
abbrev ct_:Stmt:=top 22
theorem bz_:FnScope ["numbers","product","number"] ["numbers"] (ag_ ct_):=⟨rfl,rfl,rfl,by ac_nf,rfl,by ac_nf,by ac_nf⟩
abbrev c1_:Stmt:=top 24
theorem gJ_:FnScope ["row","length"] ["row","length"] (ag_ c1_):=⟨rfl,rfl,rfl,by ac_nf,rfl,by ac_nf,by ac_nf⟩
abbrev bB_:Stmt:=top 25
theorem a0_:FnScope ["row","found","number","longer","begun"] ["row"] (ag_ bB_):=⟨rfl,rfl,rfl,by ac_nf,rfl,by ac_nf,by ac_nf⟩
abbrev ca_:Stmt:=top 26
theorem bn_:FnScope ["row","weight","first","missing","found","place"] ["row","weight","first"] (ag_ ca_):=⟨rfl,rfl,rfl,by ac_nf,rfl,by ac_nf,by ac_nf⟩
abbrev es_:Stmt:=top 27
theorem b5_:FnScope ["row","chosen","product","number","part"] ["row","chosen"] (ag_ es_):=⟨rfl,rfl,rfl,by ac_nf,rfl,by ac_nf,by ac_nf⟩
abbrev bw_:Stmt:=top 28
theorem a9_:FnScope ["row","fuller","found","place","number"] ["row","fuller"] (ag_ bw_):=⟨rfl,rfl,rfl,by ac_nf,rfl,by ac_nf,by ac_nf⟩
abbrev bI_:Stmt:=top 29
theorem aW_:FnScope ["d","k","held","free","found","place","number","lesser"] ["d","k","held","free"] (ag_ bI_):=⟨rfl,rfl,rfl,by ac_nf,rfl,by ac_nf,by ac_nf⟩
abbrev aT_:Stmt:=top 30
theorem aB_:FnScope ["d","k","held","free","found","kept","freed","lesser"] ["d","k","held","free"] (ag_ aT_):=⟨rfl,rfl,rfl,by ac_nf,rfl,by ac_nf,by ac_nf⟩
abbrev dz_:Stmt:=top 31
theorem bG_:FnScope ["asked","d","k","held","free"] ["asked"] (ag_ dz_):=⟨rfl,rfl,rfl,by ac_nf,rfl,by ac_nf,by ac_nf⟩
abbrev er_:Stmt:=top 32
theorem bE_:FnScope ["asked","known","total","number","weights","lesser"] ["asked","known"] (ag_ er_):=⟨rfl,rfl,rfl,by ac_nf,rfl,by ac_nf,by ac_nf⟩
abbrev dC_:Stmt:=top 33
theorem hN_:FnScope ["d","k","held","free"] ["d","k","held","free"] (ag_ dC_):=⟨rfl,rfl,rfl,by ac_nf,rfl,by ac_nf,by ac_nf⟩
abbrev et_:Stmt:=top 34
theorem jB_:FnScope ["d","k","held","free"] ["d","k","held","free"] (ag_ et_):=⟨rfl,rfl,rfl,by ac_nf,rfl,by ac_nf,by ac_nf⟩
abbrev eq_:Stmt:=top 36
theorem b4_:FnScope ["d","drawing","ends","i","j","w"] ["d","drawing"] (ag_ eq_):=⟨rfl,rfl,rfl,by ac_nf,rfl,by ac_nf,by ac_nf⟩
abbrev kw_:Stmt:=top 37
theorem oq_:FnScope ["lift"] ["lift"] (ag_ kw_):=⟨rfl,rfl,rfl,by ac_nf,rfl,by ac_nf,by ac_nf⟩
abbrev cu_:Stmt:=top 38
theorem bA_:FnScope ["d","floor","weight","spare","found","j","w"] ["d","floor","weight","spare"] (ag_ cu_):=⟨rfl,rfl,rfl,by ac_nf,rfl,by ac_nf,by ac_nf⟩
abbrev ep_:Stmt:=top 39
theorem b3_:FnScope ["lifts","weight","spare","found","place","lift","rest"] ["lifts","weight","spare"] (ag_ ep_):=⟨rfl,rfl,rfl,by ac_nf,rfl,by ac_nf,by ac_nf⟩
abbrev bq_:Stmt:=top 40
theorem a8_:FnScope ["d","floor","drawing","spare","there","found","lifts","ends","left"] ["d","floor","drawing","spare"] (ag_ bq_):=⟨rfl,rfl,rfl,by ac_nf,rfl,by ac_nf,by ac_nf⟩
abbrev cJ_:Stmt:=top 41
theorem bb_:FnScope ["d","k","begun","floor","longer","drawing","spare"] ["d","k"] (ag_ cJ_):=⟨rfl,rfl,rfl,by ac_nf,rfl,by ac_nf,by ac_nf⟩
abbrev hO_:Stmt:=top 42
theorem ea_:FnScope ["drawing","product","lift"] ["drawing"] (ag_ hO_):=⟨rfl,rfl,rfl,by ac_nf,rfl,by ac_nf,by ac_nf⟩
abbrev cb_:Stmt:=top 44
theorem a1_:FnScope ["numbers","first","last","alike","found","here","choices","fuller","others"] ["numbers","first","last","alike"] (ag_ cb_):=⟨rfl,rfl,rfl,by ac_nf,rfl,by ac_nf,by ac_nf⟩
abbrev bm_:Stmt:=top 45
theorem ay_:FnScope ["d","marks","known","mark","fuller","numbers","further","choices"] ["d","marks"] (ag_ bm_):=⟨rfl,rfl,rfl,by ac_nf,rfl,by ac_nf,by ac_nf⟩
abbrev bK_:Stmt:=top 47
theorem aG_:FnScope ["d","room","weights","first","weight","found","place","begin","marks","left"] ["d","room","weights","first"] (ag_ bK_):=⟨rfl,rfl,rfl,by ac_nf,rfl,by ac_nf,by ac_nf⟩
abbrev bJ_:Stmt:=top 48
theorem aX_:FnScope ["room","weights","total","place","there"] ["room","weights"] (ag_ bJ_):=⟨rfl,rfl,rfl,by ac_nf,rfl,by ac_nf,by ac_nf⟩
abbrev dB_:Stmt:=top 49
theorem aS_:FnScope ["d","k","held","free","held_weights","free_weights","total","drawing","marks","room","number"] ["d","k","held","free"] (ag_ dB_):=⟨rfl,rfl,rfl,by ac_nf,rfl,by ac_nf,by ac_nf⟩
abbrev bZ_:Stmt:=top 51
theorem eo_:FnScope ["_law_script","_law_k"] ["_law_script","_law_k"] (ag_ bZ_):=⟨rfl,rfl,rfl,by ac_nf,rfl,by ac_nf,by ac_nf⟩
abbrev cv_:Stmt:=top 52
theorem ba_:FnScope ["_law_cell","_law_x","_law_found","_law_k"] ["_law_cell"] (ag_ cv_):=⟨rfl,rfl,rfl,by ac_nf,rfl,by ac_nf,by ac_nf⟩
abbrev cw_:Stmt:=top 53
theorem dh_:FnScope ["_law_rest","_law_m","_law_digit_here"] ["_law_rest","_law_m"] (ag_ cw_):=⟨rfl,rfl,rfl,by ac_nf,rfl,by ac_nf,by ac_nf⟩
abbrev c3_:Stmt:=top 54
theorem bf_:FnScope ["_law_rest","_law_d","_law_held","_law_free","_law_left","_law_w"] ["_law_rest","_law_d"] (ag_ c3_):=⟨rfl,rfl,rfl,by ac_nf,rfl,by ac_nf,by ac_nf⟩
abbrev bV_:Stmt:=top 55
theorem cq_:FnScope ["_law_row"] ["_law_row"] (ag_ bV_):=⟨rfl,rfl,rfl,by ac_nf,rfl,by ac_nf,by ac_nf⟩
abbrev dD_:Stmt:=top 56
theorem cX_:FnScope ["_law_rest","_law_least","_law_most","_law_way","_law_far"] ["_law_rest","_law_least","_law_most"] (ag_ dD_):=⟨rfl,rfl,rfl,by ac_nf,rfl,by ac_nf,by ac_nf⟩
abbrev bY_:Stmt:=top 57
theorem bH_:FnScope ["_law_row","_law_rest","_law_way","_law_at"] ["_law_row","_law_rest"] (ag_ bY_):=⟨rfl,rfl,rfl,by ac_nf,rfl,by ac_nf,by ac_nf⟩
abbrev bX_:Stmt:=top 58
theorem en_:FnScope ["_law_e","_law_bound"] ["_law_e","_law_bound"] (ag_ bX_):=⟨rfl,rfl,rfl,by ac_nf,rfl,by ac_nf,by ac_nf⟩
abbrev bW_:Stmt:=top 59
theorem cr_:FnScope ["_law_by","_law_d","_law_k","_law_held","_law_free","_law_bound","_law_e"] ["_law_by","_law_d","_law_k","_law_held","_law_free","_law_bound"] (ag_ bW_):=⟨rfl,rfl,rfl,by ac_nf,rfl,by ac_nf,by ac_nf⟩
abbrev c2_:Stmt:=top 60
theorem dS_:FnScope ["_law_by","_law_d","_law_k","_law_held","_law_free","_law_found"] ["_law_by","_law_d","_law_k","_law_held","_law_free"] (ag_ c2_):=⟨rfl,rfl,rfl,by ac_nf,rfl,by ac_nf,by ac_nf⟩
abbrev or_:Stmt:=top 61
theorem bg_:FnScope ["_law_script","_law_rest","_law_d","_law_k","_law_held","_law_free","_law_both","_law_way","_law_bound"] ["_law_script"] (ag_ or_):=⟨rfl,rfl,rfl,by ac_nf,rfl,by ac_nf,by ac_nf⟩
set_option genInjectivity false
set_option genSizeOfSpec false
structure Fb (K:W.Frag) (mg:Str->Option Value) (n:Str) (st:Stmt) (ps:List Str) (f:Addr) (d:FuncData):Prop where
 F:Fun K n n st f d
 B:hx_ K d ps []
 m:mg n=some (.ref f)
structure Fns (K:W.Frag) (mg:Str->Option Value) where
 f0:Addr
 d0:FuncData
 f1:Addr
 d1:FuncData
 f2:Addr
 d2:FuncData
 f3:Addr
 d3:FuncData
 f4:Addr
 d4:FuncData
 f5:Addr
 d5:FuncData
 f6:Addr
 d6:FuncData
 f7:Addr
 d7:FuncData
 f8:Addr
 d8:FuncData
 f9:Addr
 d9:FuncData
 f10:Addr
 d10:FuncData
 f11:Addr
 d11:FuncData
 f12:Addr
 d12:FuncData
 f13:Addr
 d13:FuncData
 f14:Addr
 d14:FuncData
 f15:Addr
 d15:FuncData
 f16:Addr
 d16:FuncData
 f17:Addr
 d17:FuncData
 f18:Addr
 d18:FuncData
 f19:Addr
 d19:FuncData
 f20:Addr
 d20:FuncData
 f21:Addr
 d21:FuncData
 f22:Addr
 d22:FuncData
 f23:Addr
 d23:FuncData
 f24:Addr
 d24:FuncData
 f25:Addr
 d25:FuncData
 f26:Addr
 d26:FuncData
 f27:Addr
 d27:FuncData
 f28:Addr
 d28:FuncData
 f29:Addr
 d29:FuncData
 f30:Addr
 d30:FuncData
 f31:Addr
 d31:FuncData
 f32:Addr
 d32:FuncData
 f33:Addr
 d33:FuncData
 f34:Addr
 d34:FuncData
 f35:Addr
 d35:FuncData
 f36:Addr
 d36:FuncData
 f37:Addr
 d37:FuncData
 f38:Addr
 d38:FuncData
 f39:Addr
 d39:FuncData
 f40:Addr
 d40:FuncData
 f41:Addr
 d41:FuncData
 f42:Addr
 d42:FuncData
 f43:Addr
 d43:FuncData
 f44:Addr
 d44:FuncData
 X0:Fb K mg "is_whole" dA_ ["thing"] f0 d0
 X1:Fb K mg "need_between" bU_ ["thing","least","greatest"] f1 d1
 X2:Fb K mg "need_wide" cZ_ ["d","k"] f2 d2
 X3:Fb K mg "need_degree" cc_ ["d"] f3 d3
 X4:Fb K mg "choose" fJ_ ["number","chosen"] f4 d4
 X5:Fb K mg "is_row" fI_ ["thing"] f5 d5
 X6:Fb K mg "row_weight" br_ ["row"] f6 d6
 X7:Fb K mg "need_rows" c0_ ["d","held","free"] f7 d7
 X8:Fb K mg "weights_of" cs_ ["row"] f8 d8
 X9:Fb K mg "with_more" cY_ ["numbers","place","more"] f9 d9
 X10:Fb K mg "product_of" ct_ ["numbers"] f10 d10
 X11:Fb K mg "filled_up" c1_ ["row","length"] f11 d11
 X12:Fb K mg "rows_within" bB_ ["row"] f12 d12
 X13:Fb K mg "rows_beyond" ca_ ["row","weight","first"] f13 d13
 X14:Fb K mg "choices" es_ ["row","chosen"] f14 d14
 X15:Fb K mg "weights_gained" bw_ ["row","fuller"] f15 d15
 X16:Fb K mg "with_one_held" bI_ ["d","k","held","free"] f16 d16
 X17:Fb K mg "with_one_degree_fewer" aT_ ["d","k","held","free"] f17 d17
 X18:Fb K mg "summands" dz_ ["asked"] f18 d18
 X19:Fb K mg "counted" er_ ["asked","known"] f19 d19
 X20:Fb K mg "asked_of" dC_ ["d","k","held","free"] f20 d20
 X21:Fb K mg "by_ends" et_ ["d","k","held","free"] f21 d21
 X22:Fb K mg "ends_at" eq_ ["d","drawing"] f22 d22
 X23:Fb K mg "lost" kw_ ["lift"] f23 d23
 X24:Fb K mg "lifts_from" cu_ ["d","floor","weight","spare"] f24 d24
 X25:Fb K mg "leaving" ep_ ["lifts","weight","spare"] f25 d25
 X26:Fb K mg "with_floor" bq_ ["d","floor","drawing","spare"] f26 d26
 X27:Fb K mg "drawings" cJ_ ["d","k"] f27 d27
 X28:Fb K mg "worth" hO_ ["drawing"] f28 d28
 X29:Fb K mg "put_between" cb_ ["numbers","first","last","alike"] f29 d29
 X30:Fb K mg "how_many_orders" bm_ ["d","marks"] f30 d30
 X31:Fb K mg "free_placings" bK_ ["d","room","weights","first"] f31 d31
 X32:Fb K mg "how_many_held" bJ_ ["room","weights"] f32 d32
 X33:Fb K mg "by_ended" dB_ ["d","k","held","free"] f33 d33
 X34:Fb K mg "_law_cell_at" bZ_ ["_law_script","_law_k"] f34 d34
 X35:Fb K mg "_law_great" cv_ ["_law_cell"] f35 d35
 X36:Fb K mg "_law_digit" cw_ ["_law_rest","_law_m"] f36 d36
 X37:Fb K mg "_law_rows" c3_ ["_law_rest","_law_d"] f37 d37
 X38:Fb K mg "_law_trimmed" bV_ ["_law_row"] f38 d38
 X39:Fb K mg "_law_odd" dD_ ["_law_rest","_law_least","_law_most"] f39 d39
 X40:Fb K mg "_law_odd_row" bY_ ["_law_row","_law_rest"] f40 d40
 X41:Fb K mg "_law_of_kind" bX_ ["_law_e","_law_bound"] f41 d41
 X42:Fb K mg "_law_refuses" bW_ ["_law_by","_law_d","_law_k","_law_held","_law_free","_law_bound"] f42 d42
 X43:Fb K mg "_law_told" c2_ ["_law_by","_law_d","_law_k","_law_held","_law_free"] f43 d43
 X44:Fb K mg "law" or_ ["_law_script"] f44 d44
 n_isinstance:mg "isinstance"=none
 n_int:mg "int"=none
 n_bool:mg "bool"=none
 n_range:mg "range"=none
 n_list:mg "list"=none
 n_sum:mg "sum"=none
 n_enumerate:mg "enumerate"=none
 n_tuple:mg "tuple"=none
 n_len:mg "len"=none
 n_min:mg "min"=none
 n_zip:mg "zip"=none
 n_sorted:mg "sorted"=none
 n_set:mg "set"=none
 n_ValueError:mg "ValueError"=none
 a_WIDE:Addr
 m_WIDE:mg "WIDE"=some (.ref a_WIDE)
 D_WIDE:jh_ K a_WIDE [(1,6),(2,6),(3,6),(4,6),(5,3)]=true
 c_NoBound:Addr
 m_NoBound:mg "NoBound"=some (.ref c_NoBound)
 c_NoEnds:Addr
 m_NoEnds:mg "NoEnds"=some (.ref c_NoEnds)
 c_NoDrawing:Addr
 m_NoDrawing:mg "NoDrawing"=some (.ref c_NoDrawing)
 c_NoNumber:Addr
 m_NoNumber:mg "NoNumber"=some (.ref c_NoNumber)
 c_NoText:Addr
 m_NoText:mg "NoText"=some (.ref c_NoText)
 c_CurveError:Addr
 m_CurveError:mg "CurveError"=some (.ref c_CurveError)
 x_NoBound:W.excIn K c_NoBound bmV "ValueError.__new__"=true
 X_NoBound:XC K c_NoBound
 x_NoEnds:W.excIn K c_NoEnds bmV "ValueError.__new__"=true
 X_NoEnds:XC K c_NoEnds
 e_NoBound_CurveError:W.exmOne K (.ref c_NoBound) (.ref c_CurveError)=some true
 e_NoEnds_CurveError:W.exmOne K (.ref c_NoEnds) (.ref c_CurveError)=some true
 k_NoBound_ValueError:W.kitOne K (.ref c_NoBound) (.type "ValueError")=some true
 k_NoBound_NoBound:W.kitOne K (.ref c_NoBound) (.ref c_NoBound)=some true
 k_NoBound_NoEnds:W.kitOne K (.ref c_NoBound) (.ref c_NoEnds)=some false
 k_NoEnds_ValueError:W.kitOne K (.ref c_NoEnds) (.type "ValueError")=some true
 k_NoEnds_NoBound:W.kitOne K (.ref c_NoEnds) (.ref c_NoBound)=some false
 k_NoEnds_NoEnds:W.kitOne K (.ref c_NoEnds) (.ref c_NoEnds)=some true
 ks_NoBound_0:W.kitAny K (.ref c_NoBound) [(.ref c_NoDrawing),(.ref c_NoNumber),(.ref c_NoText)]=some false
 ks_NoEnds_1:W.kitAny K (.ref c_NoEnds) [(.ref c_NoDrawing),(.ref c_NoNumber),(.ref c_NoText)]=some false
abbrev Lf:=Int×Int×Int
def dL_ (e:List Int) (p:Lf):List Int:=(e.set (p.1-1).toNat (e.getD (p.1-1).toNat 0-p.2.2)).set (p.2.1-1).toNat ((e.set (p.1-1).toNat (e.getD (p.1-1).toNat 0-p.2.2)).getD (p.2.1-1).toNat 0+p.2.2)
def hc_ (n:Nat) (ps:List Lf):List Int:=ps.foldl dL_ (List.replicate n 1)
def hg_ (ps:List Lf) (f:Int):Int:=((ps.filter fun p=>decide (p.2.1=f)).map (·.2.2)).sum
def dZ_ (ps:List Lf) (f:Int):Int:=((ps.filter fun p=>decide (p.1=f)).map (·.2.2)).sum
def Okl (n:Nat) (p:Lf):Prop:=1<=p.1/\p.1<=n/\1<=p.2.1/\p.2.1<=n
theorem gh_ {l:List Int}{i j:Nat}{v:Int} (h:i<l.length):(l.set i v).getD j 0=if i=j then v else l.getD j 0:=by
 rw [List.getD,List.getElem?_set];by_cases e:i=j
 .subst e;rw [AA rfl,AA rfl,AA h];rfl
 .rw [A9 e,A9 e];rfl
theorem le_ {e:List Int}{p:Lf}:(dL_ e p).length=e.length:=by unfold dL_;rw [Ba,Ba]
theorem mQ_ {n:Nat}{e:List Int}{p:Lf} (he:e.length=n) (hp:Okl n p) (i:Nat):(dL_ e p).getD i 0=e.getD i 0+(if p.2.1=1+(i:Int) then p.2.2 else 0)-(if p.1=1+(i:Int) then p.2.2 else 0):=by
 obtain⟨h1,h2,h3,h4⟩:=hp;unfold dL_;have a1:(p.1-1).toNat<e.length:=by lia
 rw [gh_ (by rw [Ba];lia),gh_ a1];by_cases c1:(p.2.1-1).toNat=i
 .have d1:p.2.1=1+(i:Int):=by lia
  rw [AA c1,AA d1,c1];by_cases c2:(p.1-1).toNat=i
  .have d2:p.1=1+(i:Int):=by lia
   rw [AA c2,AA d2,c2];lia
  .have d2:¬p.1=1+(i:Int):=by lia
   rw [A9 c2,A9 d2];lia
 .have d1:¬p.2.1=1+(i:Int):=by lia
  rw [A9 c1,A9 d1,gh_ a1];by_cases c2:(p.1-1).toNat=i
  .have d2:p.1=1+(i:Int):=by lia
   rw [AA c2,AA d2,c2];lia
  .have d2:¬p.1=1+(i:Int):=by lia
   rw [A9 c2,A9 d2];lia
theorem fB_ (p:Lf) (ps:List Lf) (f:Int):hg_ (p::ps) f=(if p.2.1=f then p.2.2 else 0)+hg_ ps f:=by
 unfold hg_;rw [List.filter_cons];by_cases h:p.2.1=f<;>simp [h]
theorem eL_ (p:Lf) (ps:List Lf) (f:Int):dZ_ (p::ps) f=(if p.1=f then p.2.2 else 0)+dZ_ ps f:=by
 unfold dZ_;rw [List.filter_cons];by_cases h:p.1=f<;>simp [h]
theorem gl_ {n:Nat}:∀(ps:List Lf) (e:List Int),e.length=n->(∀p∈ps,Okl n p)->(ps.foldl dL_ e).length=n/\∀i:Nat,(ps.foldl dL_ e).getD i 0=e.getD i 0+hg_ ps (1+(i:Int))-dZ_ ps (1+(i:Int))
 |[],e,he,_=>⟨he,fun i=>by simp [hg_,dZ_]⟩
 |p::ps,e,he,h=>by
  rw [Cy];obtain⟨h1,h2⟩:=gl_ ps (dL_ e p) (by rw [le_];exact he) fun q hq=>h q (by simp [hq]);refine⟨h1,fun i=> ?_⟩;rw [h2 i,mQ_ he (h p (by simp)) i,fB_,eL_];lia
theorem jg_ (n:Nat) (ps:List Lf) (h:∀p∈ps,Okl n p):(hc_ n ps).length=n:=(gl_ ps _ (by simp) h).1
def s6_ (xs:List Int):Lf:=(xs.getD 0 0,xs.getD 1 0,xs.getD 2 0)
def gu_ (p:Lf):List Int:=[p.1,p.2.1,p.2.2]
theorem jp_ (p:Lf):s6_ (gu_ p)=p:=rfl
theorem ic_ {ks:List Int}{i:Nat} (h:i<ks.length):(ks.map V.int)[i]? =some (.int (ks.getD i 0)):=by rw [A6,A3 h];simp [List.getD,h]
theorem map_set {l:List Int}{i:Nat}{v:Int}:(l.set i v).map V.int=(l.map V.int).set i (.int v):=by rw [List.map_set]
def lf (p:Lf):D:=tI (gu_ p)
def lfs (ps:List Lf):D:= .l (ps.map lf)
theorem gQ_ {H:Hp}{p:Lf}{v:V} (h:Is H (lf p) v):∃a,v= .ref a/\H a=some (.tup [.int p.1, .int p.2.1, .int p.2.2]):=cg_ h
theorem lr_ {H:Hp}{p:Lf}{a:Addr} (h:H a=some (.tup [.int p.1, .int p.2.1, .int p.2.2])):Is H (lf p) (.ref a):=h9_ (xs:=gu_ p) h
theorem iQ_ (ps:List Lf):lfs ps= .l ((ps.map gu_).map tI):=by unfold lfs;rw [Bm];rfl
def bD_ (H H':Hp):Prop:=∀a xs,H a=some (.tup xs)->H' a=some (.tup xs)
theorem bD_.of_same {H H':Hp} (s:al_ H H'):bD_ H H':=fun a xs e=>s _ _ e
theorem bD_.trans {H H' H'':Hp} (s:bD_ H H') (t:bD_ H' H''):bD_ H H'':=fun a xs e=>t _ _ (s _ _ e)
theorem bD_.upd {H:Hp}{b:Addr}{zs ys:List V} (hb:H b=some (.lst zs)):bD_ H (L2.upd H b (.lst ys)):=fun a xs e=>by
 rw [ak_ (by rintro rfl;rw [hb] at e;cases e)];exact e
theorem lp_ {H H':Hp} (t:bD_ H H'):∀{ps:List Lf}{vs:List V},Iss H (ps.map lf) vs->Iss H' (ps.map lf) vs
 |[],_,h=>by rw [bh_ h];exact ao_
 |p::ps,_,h=>by
  obtain⟨u,us,rfl,h1,h2⟩:=aA_ h;obtain⟨a,rfl,ha⟩:=gQ_ h1;exact ai_ (lr_ (t _ _ ha)) (lp_ t h2)
def ed_ (p q:Lf):Bool:=if p.1=q.1 then(if p.2.1=q.2.1 then decide (p.2.2<q.2.2) else decide (p.2.1<q.2.1)) else decide (p.1<q.1)
def jL_:List Lf->List Lf->Bool
 |_,[]=>false
 |[],_::_=>true
 |x::xs,y::ys=>if x=y then jL_ xs ys else ed_ x y
theorem nP_ {K:W.Frag}{H:Hp}{p q:Lf}{v w:V} (h:Is H (lf p) v) (k:Is H (lf q) w):EqR K H 1 v w (decide (p=q)):=by
 have e:=h.eqr (K:=K) (n:=1) (by simp [lf,tI,gu_,dep,j3_]) (by simp [lf,tI,gu_,Kin,jq_]) k;have:eqD (lf p) (lf q)=decide (p=q):=by
  obtain⟨a,b,c⟩:=p;obtain⟨d,e,f⟩:=q;simp [lf,tI,gu_,eqD,hb_,Bool.and_assoc]
 rwa [this] at e
theorem qn_ {K:W.Frag}{H:Hp}{p q:Lf}{v w:V} (h:Is H (lf p) v) (k:Is H (lf q) w):LtR K H 1 v w (ed_ p q):=by
 obtain⟨a,rfl,ha⟩:=gQ_ h;obtain⟨b,rfl,hb⟩:=gQ_ k;have e:=LtR.tuples (K:=K) (H:=H) (d:=0) (a:=a) (b:=b) (fun j=>if j=0 then decide (p.1=q.1) else if j=1 then decide (p.2.1=q.2.1) else decide (p.2.2=q.2.2)) (fun j=>if j=0 then decide (p.1<q.1) else if j=1 then decide (p.2.1<q.2.1) else decide (p.2.2<q.2.2)) (SqT.of ha) (SqT.of hb) (fun j x y hx hy=> ?_) (fun j x y hx hy _=> ?_)
 .have e2:SeqAt.lex (fun j=>if j=0 then decide (p.1=q.1) else if j=1 then decide (p.2.1=q.2.1) else decide (p.2.2=q.2.2)) (fun j=>if j=0 then decide (p.1<q.1) else if j=1 then decide (p.2.1<q.2.1) else decide (p.2.2<q.2.2)) 3 3 3 0=ed_ p q:=by
   unfold ed_;by_cases e0:p.1=q.1
   .by_cases e1:p.2.1=q.2.1
    .by_cases e2:p.2.2=q.2.2
     .simp [SeqAt.lex,e0,e1,e2]
     .simp [SeqAt.lex,e0,e1,e2]
    .simp [SeqAt.lex,e0,e1]
   .simp [SeqAt.lex,e0]
  exact e2▸e
 .match j,hx,hy with
  |0,hx,hy=>cases hx;cases hy;exact EqR.int 0 _ _
  |1,hx,hy=>cases hx;cases hy;exact EqR.int 0 _ _
  |2,hx,hy=>cases hx;cases hy;exact EqR.int 0 _ _
  |j+3,hx,_=>simp at hx
 .match j,hx,hy with
  |0,hx,hy=>cases hx;cases hy;exact LtR.int 0 _ _
  |1,hx,hy=>cases hx;cases hy;exact LtR.int 0 _ _
  |2,hx,hy=>cases hx;cases hy;exact LtR.int 0 _ _
  |j+3,hx,_=>simp at hx
theorem lh_ (p q:List Lf):∀(k i:Nat),min p.length q.length-i=k->i<=min p.length q.length->SeqAt.lex (fun j=>decide (p.getD j (0,0,0)=q.getD j (0,0,0))) (fun j=>ed_ (p.getD j (0,0,0)) (q.getD j (0,0,0))) p.length q.length k i=jL_ (p.drop i) (q.drop i)
 |0,i,hk,hi=>by
  rw [SeqAt.lex];rcases(by lia:q.length=i\/(p.length=i/\i<q.length)) with e|⟨e,e2⟩
  .rw [List.drop_of_length_le (l:=q) (by lia)];have:¬p.length<q.length:=by lia
   cases p.drop i<;>simp [jL_,this]
  .rw [List.drop_of_length_le (l:=p) (by lia),Bb e2];have:p.length<q.length:=by lia
   simp [jL_,this]
 |k+1,i,hk,hi=>by
  have h1:i<p.length:=by lia
  have h2:i<q.length:=by lia
  have g1:p.getD i (0,0,0)=p[i]:=by simp [List.getD,h1]
  have g2:q.getD i (0,0,0)=q[i]:=by simp [List.getD,h2]
  rw [SeqAt.lex,Bb h1,Bb h2,jL_,g1,g2];by_cases e:p[i]=q[i]
  .rw [AA (BC e),AA e];exact lh_ p q k (i+1) (by lia) (by lia)
  .rw [A9 (by simpa using e),A9 e]
theorem lg_ {K:W.Frag}{H:Hp}{p q:List Lf}{vs ws:List V} (h:Iss H (p.map lf) vs) (k:Iss H (q.map lf) ws):
  (∀(j:Nat) x y,vs[j]? =some x->ws[j]? =some y->EqR K H 1 x y (decide (p.getD j (0,0,0)=q.getD j (0,0,0))))/\(∀(j:Nat) x y,vs[j]? =some x->ws[j]? =some y->decide (p.getD j (0,0,0)=q.getD j (0,0,0))=false->LtR K H 1 x y (ed_ (p.getD j (0,0,0)) (q.getD j (0,0,0)))):=by
 have go:∀(j:Nat) x y,vs[j]? =some x->ws[j]? =some y->Is H (lf (p.getD j (0,0,0))) x/\Is H (lf (q.getD j (0,0,0))) y:=fun j x y hx hy=>by
  obtain⟨d,hd,h1⟩:=h.of_get hx;obtain⟨e,he,h2⟩:=k.of_get hy;rw [A6] at hd he;obtain⟨d',hd',rfl⟩:=A8.mp hd;obtain⟨e',he',rfl⟩:=A8.mp he;rw [List.getD,hd',List.getD,he'];exact⟨h1,h2⟩
 exact⟨fun j x y hx hy=>nP_ (go j x y hx hy).1 (go j x y hx hy).2,fun j x y hx hy _=>qn_ (go j x y hx hy).1 (go j x y hx hy).2⟩
theorem pe_ {K:W.Frag}{H:Hp}{p q:List Lf}{v w:V} (h:Is H (lfs p) v) (k:Is H (lfs q) w):Ask K H v w (jL_ p q):=by
 obtain⟨a,vs,rfl,ha,h⟩:=b9_ h;obtain⟨b,ws,rfl,hb,k⟩:=b9_ k;obtain⟨e1,e2⟩:=lg_ (K:=K) h k;refine⟨a,b,vs,ws,1,_,_,rfl,rfl,SqL.of ha,SqL.of hb,by decide,e1,e2, ?_⟩;rw [h.length,k.length,A1,A1,lh_ p q _ 0 (Nat.sub_zero _) (AK _),List.drop_zero,List.drop_zero]
def nw (H0 H:Hp):Hp:=fun b=>match H0 b with|some (.lst _)=>none|_=>H b
theorem a7_ {H0 H:Hp}:al_ (nw H0 H) H:=fun b o e=>by
 unfold nw at e;split at e
 .cases e
 .exact e
theorem dJ_ {H0 H H':Hp} (s:al_ H H'):al_ (nw H0 H) (nw H0 H'):=fun b o e=>by
 unfold nw at e⊢;split at e
 .cases e
 .exact s _ _ e
theorem fW_ {H0 H1 H:Hp} (s:al_ H0 H1):al_ (nw H1 H) (nw H0 H):=fun b o e=>by
 unfold nw at e⊢;split at e
 .cases e
 .rename_i h;split
  .rename_i xs h0;exact absurd (s _ _ h0) (h xs)
  .exact e
theorem gR_ {H0 H1 H:Hp}{a:Addr}{xs:List V} (s:al_ H0 H1) (ha:H1 a=some (.lst xs)):al_ (nw H1 H) (hid (nw H0 H) a):=fun b o e=>by
 have hb:b≠a:=by
  rintro rfl;unfold nw at e;rw [ha] at e;cases e
 rw [lw_ hb];exact fW_ s b o e
theorem cm_ {H0 H:Hp}{a:Addr} (h:H0 a=none):nw H0 H a=H a:=by unfold nw;rw [h]
theorem fo_ {H0 H:Hp}{a:Addr}{xs:List V} (s:al_ H0 H) (h:H a=some (.tup xs)):nw H0 H a=some (.tup xs):=by
 unfold nw;split
 .rename_i ys e;rw [s _ _ e] at h;cases h
 .exact h
theorem qi_ {H0 H:Hp}{ps:List Lf}{vs:List V} (s:al_ H0 H) (h:Iss H (ps.map lf) vs):Iss (nw H0 H) (ps.map lf) vs:=lp_ (fun a xs e=>fo_ s e) h
theorem k4_ {H0 H:Hp}{ps:List Lf}{a:Addr} (s:al_ H0 H) (n:H0 a=none) (h:Is H (lfs ps) (.ref a)):Is (nw H0 H) (lfs ps) (.ref a):=by
 obtain⟨_,vs,e,ha,hi⟩:=b9_ h;cases e;exact co_ (by rw [cm_ n];exact ha) (qi_ s hi)
def Acc (H0 H:Hp) (a:Addr) (xs:List D):Prop:=∃vs,H a=some (.lst vs)/\Iss (hid (nw H0 H) a) xs vs
theorem Acc.start {H0 H:Hp}{a:Addr} (h:H a=some (.lst [])):Acc H0 H a []:=⟨[],h,ao_⟩
theorem Acc.mono {H0 H H':Hp}{a:Addr}{xs:List D} (s:al_ H H') (g:Acc H0 H a xs):Acc H0 H' a xs:=let ⟨vs,e,h⟩:=g;⟨vs,s _ _ e,h.mono (cM_ (dJ_ s))⟩
theorem fu_ {H0 H:Hp}{a:Addr}{o:HO}:hid (nw H0 (upd H a o)) a=hid (nw H0 H) a:=by
 funext b
 unfold hid;split
 .rfl
 .rename_i h;unfold nw;rw [ak_ h]
theorem Acc.add {H0 H1 H2:Hp}{a:Addr}{xs:List D}{x:D}{vs:List V}{v:V} (s01:al_ H0 H1) (s12:al_ H1 H2) (ha:H1 a=some (.lst vs)) (h:Iss (hid (nw H0 H1) a) xs vs) (k:Is (nw H1 H2) x v):Acc H0 (upd H2 a (.lst (vs++[v]))) a (xs++[x]):=
 ⟨vs++[v],ae_,by rw [fu_];exact(h.mono (cM_ (dJ_ s12))).append (ai_ (k.mono (gR_ s01 ha)) ao_)⟩
theorem Acc.adds {H0 H1 H2:Hp}{a:Addr}{xs ys:List D}{vs us:List V} (s01:al_ H0 H1) (s12:al_ H1 H2) (ha:H1 a=some (.lst vs)) (h:Iss (hid (nw H0 H1) a) xs vs) (k:Iss (nw H1 H2) ys us):Acc H0 (upd H2 a (.lst (vs++us))) a (xs++ys):=
 ⟨vs++us,ae_,by rw [fu_];exact(h.mono (cM_ (dJ_ s12))).append (k.mono (gR_ s01 ha))⟩
theorem Acc.is {H0 H:Hp}{a:Addr}{xs:List D} (n:H0 a=none) (g:Acc H0 H a xs):Is (nw H0 H) (.l xs) (.ref a):=let ⟨_,e,h⟩:=g;co_ (by rw [cm_ n];exact e) (h.mono mZ_)
def bC_ (p:Lf):Int:=(p.2.1-p.1)*p.2.2-1
def l7_ (f j:Int) (n:Nat) (sp:Int):List Lf:=((List.range n).map fun w:Nat=>((f,j,1+(w:Int)):Lf)).filter fun p=>decide (bC_ p<=sp)
def jN_ (f:Int) (m n:Nat) (sp:Int):List Lf:=(List.range m).flatMap fun i:Nat=>l7_ f (f+1+(i:Int)) n sp
def cN_:Nat->List Lf->Int->Int->List (List Lf)
 |0,_,_,_=>[[]]
 |n+1,ls,wt,sp=>[[]]++(List.range ls.length).flatMap fun i=>match ls[i]? with
  |none=>[]
  |some p=>if p.2.2<=wt/\bC_ p<=sp then(cN_ n (ls.drop i) (wt-p.2.2) (sp-bC_ p)).map (p:: ·) else []
def dM_ (n:Nat) (ls:List Lf) (wt sp:Int) (i:Nat):List (List Lf):=match ls[i]? with
  |none=>[]
  |some p=>if p.2.2<=wt/\bC_ p<=sp then(cN_ n (ls.drop i) (wt-p.2.2) (sp-bC_ p)).map (p:: ·) else []
theorem eM_ (n:Nat) (ls:List Lf) (wt sp:Int):cN_ (n+1) ls wt sp=[[]]++(List.range ls.length).flatMap (dM_ n ls wt sp):=rfl
def thF (d f:Nat) (ps:List Lf):Int:=(hc_ d ps).getD (f-1) 0
def f9_ (d f:Nat) (th sp:Int) (ls:List Lf):Int:=sp-(ls.map bC_).sum-(th-(ls.map (·.2.2)).sum)*((d:Int)-(f:Int))
def oS_ (d f:Nat) (th sp:Int):List (List Lf):=cN_ 8 (jN_ f (d-f) th.toNat sp) th sp
def ej_ (d f:Nat) (ps:List Lf) (sp:Int):List (List Lf×Int):=((oS_ d f (thF d f ps) sp).filter fun ls=>decide (0<=f9_ d f (thF d f ps) sp ls)).map fun ls=>(ps++ls,f9_ d f (thF d f ps) sp ls)
def fc_ (d:Nat) (k:Int):Nat->List (List Lf×Int)
 |0=>[([],k)]
 |f+1=>(fc_ d k f).flatMap fun x=>ej_ d (f+1) x.1 x.2
def jD_ (d k:Nat):List (List Lf):=((fc_ d k d).filter fun x=>decide (x.2=0)).map (·.1)
def qd_ (d:Nat) (p:Lf):Bool:=decide (1<=p.1)&&decide (p.1<p.2.1)&&decide (p.2.1<=d)&&decide (1<=p.2.2)&&decide (p.2.2<=8)
def stB (d f:Nat) (x:List Lf×Int):Bool:=x.1.all (qd_ d)&&decide (x.1.length<=20)&&decide (0<=thF d (f+1) x.1)&&decide (thF d (f+1) x.1<8)&&decide (0<=x.2)&&decide (x.2<=6)&&decide ((oS_ d (f+1) (thF d (f+1) x.1) x.2).length<=200)
def okB (d k:Nat):Bool:=(List.range d).all (fun f=>(fc_ d k f).all (stB d f)&&decide ((fc_ d k (f+1)).length<=900))&&(fc_ d k d).all fun x=>decide (x.1.length<=20)
def Wide (d k:Nat):Prop:=1<=d/\((d<=4/\k<=6)\/(d=5/\k<=3))
theorem gW_ (f j:Int) (n:Nat) (sp:Int):l7_ f j (n+1) sp=l7_ f j n sp++(if bC_ (f,j,1+(n:Int))<=sp then [(f,j,1+(n:Int))] else []):=by
 unfold l7_;rw [B6,AH,CW];by_cases h:bC_ (f,j,1+(n:Int))<=sp<;>simp [h]
theorem gX_ (f:Int) (m n:Nat) (sp:Int):jN_ f (m+1) n sp=jN_ f m n sp++l7_ f (f+1+(m:Int)) n sp:=by
 unfold jN_;rw [B6,B5];simp
theorem iR_ (f j:Int) (n:Nat) (sp:Int):(l7_ f j n sp).length<=n:=by
 unfold l7_;exact Az (List.length_filter_le _ _) (by simp)
theorem f8_ (f:Int) (n:Nat) (sp:Int):∀m,(jN_ f m n sp).length<=m*n
 |0=>by simp [jN_]
 |m+1=>by
  rw [gX_,AB,CA];have:=f8_ f n sp m;have:=iR_ f (f+1+(m:Int)) n sp;lia
theorem h6_ {f:Int}{m n:Nat}{sp:Int}{p:Lf} (h:p∈jN_ f m n sp):p.1=f/\f<p.2.1/\p.2.1<=f+m/\1<=p.2.2/\p.2.2<=n:=by
 unfold jN_ l7_ at h;simp only [B7,Af,List.mem_filter,Al] at h;obtain⟨i,hi,⟨w,hw,rfl⟩,_⟩:=h;refine⟨rfl, ?_, ?_, ?_, ?_⟩
 .show f<f+1+(i:Int);lia
 .show f+1+(i:Int)<=f+m;lia
 .show 1<=1+(w:Int);lia
 .show 1+(w:Int)<=n;lia
theorem bu_ {α:Type} (g:Nat->List α) (i:Nat):(List.range (i+1)).flatMap g=(List.range i).flatMap g++g i:=by
 rw [B6,B5];simp
theorem eu_ {α:Type} (g:Nat->List α):∀{m i:Nat},i<m->((List.range i).flatMap g).length+(g i).length<=((List.range m).flatMap g).length
 |0,i,h=>absurd h (by lia)
 |m+1,i,h=>by
  rw [bu_,AB];by_cases e:i=m
  .rw [e];exact A7 _
  .have:=eu_ g (m:=m) (i:=i) (by lia);lia
theorem oW_ {n:Nat}{ls:List Lf}{wt sp:Int}{x:List Lf} (h:x∈cN_ (n+1) ls wt sp):x=[]\/∃(i:Nat) (p:Lf) (r:List Lf),ls[i]? =some p/\p.2.2<=wt/\bC_ p<=sp/\r∈cN_ n (ls.drop i) (wt-p.2.2) (sp-bC_ p)/\x=p::r:=by
 rw [eM_] at h;rcases Bx.mp h with h|h
 .exact .inl (Aq.mp h)
 .obtain⟨i,hi,h⟩:=B7.mp h;unfold dM_ at h;split at h
  .cases h
  .rename_i p hp;split at h
   .rename_i c;obtain⟨r,hr,rfl⟩:=Al.mp h;exact .inr ⟨i,p,r,hp,c.1,c.2,hr,rfl⟩
   .cases h
theorem eN_:∀{n:Nat}{ls:List Lf}{wt sp:Int}{x:List Lf},(∀p∈ls,1<=p.2.2)->0<=wt->x∈cN_ n ls wt sp->x.length<=n/\0<=(x.map (·.2.2)).sum/\(x.map (·.2.2)).sum<=wt/\∀p∈x,p∈ls
 |0,ls,wt,sp,x,_,h0,h=>by
  rw [cN_] at h;rw [Aq.mp h];exact⟨by simp,by simp,by simpa using h0,fun p hp=>nomatch hp⟩
 |n+1,ls,wt,sp,x,hw,h0,h=>by
  rcases oW_ h with rfl|⟨i,p,r,hp,c1,c2,hr,rfl⟩
  .exact⟨by simp,by simp,by simpa using h0,fun p hp=>nomatch hp⟩
  .have pm:=AS hp;have p1:=hw p pm;obtain⟨a,b,c,d⟩:=eN_ (fun q hq=>hw q (Ct hq)) (by lia) hr;refine⟨by rw [AL];lia, ?_, ?_,fun q hq=> ?_⟩
   .rw [AO,Ae];lia
   .rw [AO,Ae];lia
   .rcases AI.mp hq with rfl|hq
    .exact pm
    .exact Ct (d q hq)
theorem fQ_ {d:Nat}{p:Lf}:qd_ d p=true↔1<=p.1/\p.1<p.2.1/\p.2.1<=d/\1<=p.2.2/\p.2.2<=8:=by
 unfold qd_;simp only [AN,C0];constructor
 .rintro⟨⟨⟨⟨a,b⟩,c⟩,d⟩,e⟩;exact⟨a,b,c,d,e⟩
 .rintro⟨a,b,c,d,e⟩;exact⟨⟨⟨⟨a,b⟩,c⟩,d⟩,e⟩
theorem oh_ {d f:Nat}{x:List Lf×Int} (h:stB d f x=true):(∀p∈x.1,qd_ d p=true)/\x.1.length<=20/\0<=thF d (f+1) x.1/\thF d (f+1) x.1<8/\0<=x.2/\x.2<=6/\(oS_ d (f+1) (thF d (f+1) x.1) x.2).length<=200:=by
 unfold stB at h;simp only [AN,C0,Av] at h;obtain⟨⟨⟨⟨⟨⟨a,b⟩,c⟩,d⟩,e⟩,f⟩,g⟩:=h;exact⟨a,b,c,d,e,f,g⟩
theorem oK_ {d k:Nat} (h:okB d k=true):(∀f<d,(∀x∈fc_ d k f,stB d f x=true)/\(fc_ d k (f+1)).length<=900)/\∀x∈fc_ d k d,x.1.length<=20:=by
 unfold okB at h;simp only [AN,C0,Av,Af] at h;exact h
theorem qo_ (p q:Lf):ltI (gu_ p) (gu_ q)=ed_ p q:=by
 unfold ed_ ltI gu_;simp only [jO_,AL,B8];split
 .split
  .split
   .rename_i h;simp [h]
   .rfl
  .rfl
 .rfl
def Srt (ps:List Lf):Prop:=ps.Pairwise fun a b=>ed_ b a=false
theorem nr_ {α:Type} (g:α->Int):∀{xs:List α},(∀x∈xs,0<=g x)->0<=(xs.map g).sum
 |[],_=>by simp
 |x::xs,h=>by
  rw [AO,Ae];have:=nr_ g (xs:=xs) fun y hy=>h y (by simp [hy]);have:=h x (by simp);lia
structure Snd (d:Nat) (ps:List Lf):Prop where
 ok:∀p∈ps,1<=p.1/\p.1<p.2.1/\p.2.1<=d/\1<=p.2.2
 nn:∀i:Nat,i<d->0<=1+hg_ ps (1+(i:Int))-dZ_ ps (1+(i:Int))
 so:Srt ps
def eF (ps:List Lf) (i:Nat):Int:=1+hg_ ps (1+(i:Int))-dZ_ ps (1+(i:Int))
theorem oT_ {p:Lf} (h1:p.1<p.2.1) (h2:1<=p.2.2):0<=bC_ p:=by
 unfold bC_;have:1*1<=(p.2.1-p.1)*p.2.2:=C8 (by lia) h2 (by decide) (by lia);lia
def hz_ (d:Nat) (g:Nat->Int) (n:Nat):Int:=((List.range n).map fun i=>g i*((d:Int)-((i+1:Nat):Int))).sum
theorem bp_ (d:Nat) (g:Nat->Int) (n:Nat):hz_ d g (n+1)=hz_ d g n+g n*((d:Int)-((n+1:Nat):Int)):=by
 unfold hz_;rw [B6,AH,Bi];simp
theorem hX_ (d:Nat) (j w:Int) (h1:1<=j):∀n:Nat,hz_ d (fun i=>if j=1+(i:Int) then w else 0) n=if j<=n then w*((d:Int)-j) else 0
 |0=>by
  rw [A9 (by lia)];rfl
 |n+1=>by
  rw [bp_,hX_ d j w h1 n];by_cases c:j=1+(n:Int)
  .have c':¬j<=(n:Int):=by lia
   have c2:j<=((n+1:Nat):Int):=by lia
   rw [AA c,A9 c',AA c2,c,show(((n+1:Nat):Int))=1+(n:Int) by lia,Int.zero_add]
  .rw [A9 c,Int.zero_mul,Int.add_zero];by_cases c2:j<=(n:Int)
   .rw [AA c2,AA (by lia)]
   .rw [A9 c2,A9 (by lia)]
theorem iq_ (d:Nat) (g h:Nat->Int):∀n,hz_ d (fun i=>g i+h i) n=hz_ d g n+hz_ d h n
 |0=>rfl
 |n+1=>by
  rw [bp_,bp_,bp_,iq_ d g h n,Int.add_mul];lia
theorem ip_ (d:Nat) (g h:Nat->Int):∀n,hz_ d (fun i=>g i-h i) n=hz_ d g n-hz_ d h n
 |0=>rfl
 |n+1=>by
  rw [bp_,bp_,bp_,ip_ d g h n,Int.sub_mul];lia
theorem qI_ {d:Nat}:∀{ps:List Lf},(∀p∈ps,1<=p.1/\p.1<p.2.1/\p.2.1<=d/\1<=p.2.2)->hz_ d (eF ps) d+(ps.map bC_).sum+ps.length=hz_ d (fun _=>1) d
 |[],_=>by
  have:eF []=fun _=>1:=by funext i;simp [eF,hg_,dZ_]
  rw [this];simp
 |p::ps,h=>by
  have ih:=qI_ (ps:=ps) fun q hq=>h q (by simp [hq]);obtain⟨p1,p2,p3,p4⟩:=h p (by simp);have e:eF (p::ps)=fun i:Nat=>(eF ps i+(if p.2.1=1+(i:Int) then p.2.2 else 0))-(if p.1=1+(i:Int) then p.2.2 else 0):=by
   funext i
   unfold eF;rw [fB_,eL_];lia
  rw [e,ip_ d (fun i:Nat=>eF ps i+(if p.2.1=1+(i:Int) then p.2.2 else 0)),iq_ d (eF ps),hX_ d p.2.1 p.2.2 (by lia),hX_ d p.1 p.2.2 p1,AA p3,AA (by lia),AO,Ae,AL];have l:bC_ p=p.2.2*((d:Int)-p.1)-p.2.2*((d:Int)-p.2.1)-1:=by
   unfold bC_;rw [<-Int.mul_sub,Int.mul_comm];congr 2
   lia
  rw [l]
  push_cast
  lia
theorem lG_ {d:Nat}{ps:List Lf} (h:∀p∈ps,Okl d p) {i:Nat} (hi:i<d):(hc_ d ps).getD i 0=eF ps i:=by
 have:=(gl_ ps (List.replicate d 1) (by simp) h).2 i;unfold hc_;rw [this];unfold eF;have:(List.replicate d (1:Int)).getD i 0=1:=by simp [List.getD,hi]
 rw [this]
theorem m2_ {d:Nat} (h1:1<=d) (h5:d<=5):hz_ d (fun _=>1) d=((d*(d-1)/2:Nat):Int):=by
 have:d=1\/d=2\/d=3\/d=4\/d=5:=by lia
 rcases this with rfl|rfl|rfl|rfl|rfl<;>decide
def nZ_ (d:Nat) (ps:List Lf):Prop:=(∀p∈ps,1<=p.1/\p.1<p.2.1/\p.2.1<=d/\1<=p.2.2)/\∀i:Nat,i<d->0<=eF ps i
theorem nZ_.okl {d:Nat}{ps:List Lf} (h:nZ_ d ps):∀p∈ps,Okl d p:=fun p hp=>by
 obtain⟨a,b,c,_⟩:=h.1 p hp;exact⟨a,by lia,by lia,c⟩
theorem fC_ {d:Nat}{g:Nat->Int}:∀{n i:Nat},n<=d->(∀j<n,0<=g j)->i<n->g i*((d:Int)-((i+1:Nat):Int))<=hz_ d g n/\0<=hz_ d g n
 |0,i,_,_,h=>absurd h (by lia)
 |n+1,i,hd,hg,h=>by
  rw [bp_];have a:0<=g n*((d:Int)-((n+1:Nat):Int)):=Bf (hg n (by lia)) (by lia);have b:0<=hz_ d g n:=by
   cases n with
   |zero=>exact CL _
   |succ n=>exact(fC_ (d:=d) (g:=g) (n:=n+1) (i:=0) (by lia) (fun j hj=>hg j (by lia)) (by lia)).2
  by_cases e:i=n
  .subst e;exact⟨by lia,by lia⟩
  .have:=(fC_ (d:=d) (g:=g) (n:=n) (i:=i) (by lia) (fun j hj=>hg j (by lia)) (by lia)).1;exact⟨by lia,by lia⟩
theorem nZ_.len {d:Nat}{ps:List Lf} (h:nZ_ d ps) (d1:1<=d) (d5:d<=5):ps.length<=d*(d-1)/2/\d*(d-1)/2<=10/\∀i:Nat,i+1<d->eF ps i<=10:=by
 have a:=qI_ h.1;rw [m2_ d1 d5] at a;have n1:=nr_ bC_ (xs:=ps) fun p hp=>by
  have:=h.1 p hp;exact oT_ this.2.1 this.2.2.2
 have n2:=(fC_ (d:=d) (g:=eF ps) (n:=d) (i:=0) (A7 _) h.2 (by lia)).2;have d10:d*(d-1)/2<=10:=by
  have:d=1\/d=2\/d=3\/d=4\/d=5:=by lia
  rcases this with rfl|rfl|rfl|rfl|rfl<;>decide
 refine⟨by lia,d10,fun i hi=> ?_⟩;have b:=(fC_ (d:=d) (g:=eF ps) (n:=d) (i:=i) (A7 _) h.2 (by lia)).1;have c:eF ps i*1<=eF ps i*((d:Int)-((i+1:Nat):Int)):=Cu (by lia) (h.2 i (by lia));lia
def nJ_ (x:Lf):List Lf->List Lf
 |[]=>[x]
 |y::ys=>if ed_ x y then x::y::ys else if x=y then y::ys else y::nJ_ x ys
def jw_ (xs:List Lf):List Lf:=xs.foldr nJ_ []
theorem f5_ {p q:Lf}:ed_ p q=true↔p.1<q.1\/(p.1=q.1/\(p.2.1<q.2.1\/(p.2.1=q.2.1/\p.2.2<q.2.2))):=by
 unfold ed_;by_cases e0:p.1=q.1
 .by_cases e1:p.2.1=q.2.1
  .simp [e0,e1]
  .simp [e0,e1]
 .simp [e0]
theorem f4_ {p:Lf}:¬ed_ p p=true:=by rw [f5_];lia
theorem ld_ {p q r:Lf} (h:ed_ p q=true) (k:ed_ q r=true):ed_ p r=true:=by rw [f5_] at*;lia
theorem iN_ {p q:Lf} (h:¬ed_ p q=true) (k:p≠q):ed_ q p=true:=by
 rw [f5_] at*
 obtain⟨a,b,c⟩:=p;obtain⟨d,e,f⟩:=q;simp only [ne_eq,BE,not_and] at*
 lia
theorem gg_ {x z:Lf}:∀{ys:List Lf},z∈nJ_ x ys↔z=x\/z∈ys
 |[]=>by simp [nJ_]
 |y::ys=>by
  unfold nJ_;split
  .simp
  .split
   .rename_i e;subst e;simp
   .simp [gg_ (ys:=ys)];constructor
    .rintro(h|h|h)
     .exact .inr (.inl h)
     .exact .inl h
     .exact .inr (.inr h)
    .rintro(h|h|h)
     .exact .inr (.inl h)
     .exact .inl h
     .exact .inr (.inr h)
theorem lt_ {x:Lf}:∀{ys:List Lf},(ys.Pairwise fun a b=>ed_ a b=true)->(nJ_ x ys).Pairwise fun a b=>ed_ a b=true
 |[],_=>by simp [nJ_]
 |y::ys,h=>by
  unfold nJ_;split
  .rename_i e;refine List.Pairwise.cons (fun z hz=> ?_) h;rcases AI.mp hz with rfl|hz
   .exact e
   .exact ld_ e ((CB.mp h).1 z hz)
  .split
   .exact h
   .rename_i e1 e2;refine List.Pairwise.cons (fun z hz=> ?_) (lt_ (CB.mp h).2);rcases gg_.mp hz with rfl|hz
    .exact iN_ e1 e2
    .exact(CB.mp h).1 z hz
theorem fG_ {z:Lf}:∀{xs:List Lf},z∈jw_ xs↔z∈xs
 |[]=>by simp [jw_]
 |x::xs=>by
  have:=fG_ (z:=z) (xs:=xs);unfold jw_ at this⊢;rw [List.foldr_cons,gg_,this,AI]
theorem hK_:∀(xs:List Lf),(jw_ xs).Pairwise fun a b=>ed_ a b=true
 |[]=>by simp [jw_]
 |x::xs=>by
  have:=hK_ xs;unfold jw_ at this⊢;rw [List.foldr_cons];exact lt_ this
theorem gK_:∀{xs ys:List Lf},(xs.Pairwise fun a b=>ed_ a b=true)->(ys.Pairwise fun a b=>ed_ a b=true)->(∀z,z∈xs↔z∈ys)->xs=ys
 |[],[],_,_,_=>rfl
 |[],y::ys,_,_,h=>absurd ((h y).mpr (by simp)) (by simp)
 |x::xs,[],_,_,h=>absurd ((h x).mp (by simp)) (by simp)
 |x::xs,y::ys,h1,h2,h=>by
  have a1:=CB.mp h1;have a2:=CB.mp h2;have e:x=y:=by
   refine Classical.byContradiction fun ne=> ?_;have m1:x∈ys:=by rcases AI.mp ((h x).mp (by simp)) with e|e;exact absurd e ne;exact e
   have m2:y∈xs:=by rcases AI.mp ((h y).mpr (by simp)) with e|e;exact absurd e.symm ne;exact e
   exact f4_ (ld_ (a1.1 y m2) (a2.1 x m1))
  subst e;have:xs=ys:=gK_ a1.2 a2.2 fun z=>by
   have hz:=h z;rw [AI,AI] at hz;constructor
   .intro m;rcases hz.mp (.inr m) with e|e
    .subst e;exact absurd (a1.1 z m) f4_
    .exact e
   .intro m;rcases hz.mpr (.inr m) with e|e
    .subst e;exact absurd (a2.1 z m) f4_
    .exact e
  rw [this]
theorem mt_ {p q:Lf} (h:gu_ p=gu_ q):p=q:=by rw [<-jp_ p,<-jp_ q,h]
theorem oj_ {ps:List Lf}{yss:List (List Int)} (nd:yss.Nodup) (mem:∀z,z∈yss↔z∈ps.map gu_) (so:∀i j,i<j->j<yss.length->ltI (yss.getD j []) (yss.getD i [])=false):yss=(jw_ ps).map gu_:=by
 obtain⟨qs,e,hq⟩:=c7_ (f:=gu_) (P:=fun p=>p∈ps) yss fun v hv=>by
  obtain⟨p,hp,rfl⟩:=Al.mp ((mem v).mp hv);exact⟨p,hp,rfl⟩
 subst e;have:qs=jw_ ps:=by
  refine gK_ ?_ (hK_ ps) fun z=> ?_
  .rw [CO];intro i j hi hj hij;have h1:=so i j hij (by rw [A1];exact hj);rw [A5,A5,A6,A6,A3 hi,A3 hj] at h1;simp only [Option.map_some,Option.getD_some] at h1;rw [qo_] at h1;refine iN_ (by rw [h1];simp) fun e=> ?_;unfold List.Nodup at nd;rw [List.pairwise_map,CO] at nd;exact nd i j hi hj hij (by rw [e])
  .rw [fG_];constructor
   .exact hq z
   .intro hz;obtain⟨q,hq',e⟩:=Al.mp ((mem (gu_ z)).mpr (List.mem_map_of_mem hz));rw [<-mt_ e];exact hq'
 rw [this]
def chF (n:Int):Nat->Int
 |0=>1
 |k+1=>chF n k*(n-(k:Int))/((k:Int)+1)
def chB:Bool:=(List.range 16).all fun n=>(List.range (n+1)).all fun k=>decide (0<=chF (n:Int) k)&&decide (chF (n:Int) k<=6435)
theorem qP_:chB=true:=by ac_nf
theorem qO_ {n:Int}{k:Nat} (h1:(k:Int)<=n) (h2:n<=15):0<=chF n k/\chF n k<=6435:=by
 obtain⟨m,rfl⟩:=Ao (show 0<=n by lia);have h:=qP_;unfold chB at h;rw [Av] at h;have h:=h m (Af.mpr (by lia));rw [Av] at h;have h:=h k (Af.mpr (by lia));simpa using h
def wmF (t:List Int) (p:Nat) (m:Int):List Int:=t.set p (t.getD p 0+m)
theorem bx_ (t:List Int) (p:Nat) (m:Int):(wmF t p m).length=t.length:=by unfold wmF;rw [Ba]
theorem me_ {t:List Int}{p i:Nat}{m:Int} (h:p<t.length):(wmF t p m).getD i 0=t.getD i 0+if p=i then m else 0:=by
 unfold wmF;rw [A5,List.getElem?_set];by_cases e:p=i
 .subst e;simp [h]
 .simp [e]
theorem oo_ {t:List Int}{p:Nat}{x:Int} (h:p<t.length):t.take p++[x]++t.drop (p+1)=t.set p x:=by
 rw [List.set_eq_take_append_cons_drop,AA h];simp
def spR:Nat->Nat->List (List Nat)
 |0,a=>[[a]]
 |g+1,a=>(List.range (a+1)).flatMap fun h=>(spR g (a-h)).map (h:: ·)
def gt_ (t:List Int):Nat->List Nat->Int
 |_,[]=>1
 |p,s::r=>chF (t.getD p 0+(s:Int)) s*gt_ t (p+1) r
def hu_ (t:List Int):Nat->List Nat->List Int
 |_,[]=>t
 |p,s::r=>hu_ (wmF t p (s:Int)) (p+1) r
theorem kC_ {t:List Int}{m:Int}{q:Nat} (hq:q<t.length):∀{r:List Nat}{p:Nat},q<p->gt_ (wmF t q m) p r=gt_ t p r
 |[],p,_=>rfl
 |s::r,p,h=>by
  unfold gt_;rw [me_ hq,A9 (by lia),kC_ hq (r:=r) (by lia)];simp
def pbF:Nat->List Int->Nat->Nat->List (List Int×Int)
 |0,t,p,a=>[(wmF t p (a:Int),chF (t.getD p 0+(a:Int)) a)]
 |g+1,t,p,a=>(List.range (a+1)).flatMap fun h:Nat=>(pbF g (wmF t p (h:Int)) (p+1) (a-h)).map fun x=>(x.1,chF (t.getD p 0+(h:Int)) h*x.2)
theorem fv_ {α β:Type}{f g:α->List β}:∀{xs:List α},(∀x∈xs,f x=g x)->xs.flatMap f=xs.flatMap g
 |[],_=>rfl
 |x::xs,h=>by rw [BK,BK,h x (by simp),fv_ fun y hy=>h y (by simp [hy])]
theorem p7_:∀{g:Nat}{t:List Int}{p a:Nat},p+g<t.length->pbF g t p a=(spR g a).map fun r=>(hu_ t p r,gt_ t p r)
 |0,t,p,a,_=>by simp [pbF,spR,hu_,gt_]
 |g+1,t,p,a,h=>by
  unfold pbF spR;rw [List.map_flatMap];refine fv_ fun x _=> ?_;rw [p7_ (by rw [bx_];lia),Bm,Bm];refine BZ fun r _=> ?_;simp only [Function.comp,hu_,gt_];rw [kC_ (by lia) (BF p)]
theorem hL_:∀{g a:Nat}{r:List Nat},r∈spR g a->r.length=g+1/\r.sum=a
 |0,a,r,h=>by simp [spR] at h;subst h;simp
 |g+1,a,r,h=>by
  unfold spR at h;obtain⟨x,hx,h⟩:=B7.mp h;obtain⟨r',h',rfl⟩:=Al.mp h;have hx:=Af.mp hx;obtain⟨e1,e2⟩:=hL_ h';simp [e1,e2];lia
theorem fF_:∀{t:List Int}{p:Nat}{m:Int},p<t.length->(wmF t p m).sum=t.sum+m
 |[],p,m,h=>absurd h (by simp)
 |x::t,0,m,_=>by simp [wmF];lia
 |x::t,p+1,m,h=>by
  have:=fF_ (t:=t) (p:=p) (m:=m) (by simpa using h);unfold wmF at this⊢;simp only [List.set_cons_succ,Ae,List.getD_cons_succ] at this⊢;lia
theorem l1_:∀{r:List Nat}{t:List Int}{p:Nat},p+r.length<=t.length->(∀i:Nat,0<=t.getD i 0)->(hu_ t p r).length=t.length/\(hu_ t p r).sum=t.sum+(r.sum:Nat)/\∀i:Nat,0<=(hu_ t p r).getD i 0
 |[],t,p,_,h=>by simpa [hu_] using h
 |s::r,t,p,hl,h=>by
  have hp:p<t.length:=by simp at hl;lia
  obtain⟨e1,e2,e3⟩:=l1_ (r:=r) (t:=wmF t p (s:Int)) (p:=p+1) (by rw [bx_];simp at hl;lia) (fun i=>by rw [me_ hp];have:=h i;split<;>lia)
  unfold hu_;refine⟨by rw [e1,bx_], ?_,e3⟩;rw [e2,fF_ hp,Ae];lia
theorem fq_:∀{t:List Int},(∀i:Nat,0<=t.getD i 0)->0<=t.sum/\∀i:Nat,t.getD i 0<=t.sum
 |[],_=>by simp
 |x::t,h=>by
  have hx:=h 0;obtain⟨e1,e2⟩:=fq_ (t:=t) fun i=>by have:=h (i+1);simpa using this
  simp only [List.getD_cons_zero] at hx;rw [Ae];refine⟨by lia,fun i=> ?_⟩;cases i with
  |zero=>simp;lia
  |succ i=>have:=e2 i;rw [List.getD_cons_succ];lia
theorem kD_:∀{r:List Nat}{t:List Int}{p:Nat},(∀i:Nat,0<=t.getD i 0)->t.sum+(r.sum:Nat)<=15->0<=gt_ t p r/\gt_ t p r<=6435^r.length
 |[],t,p,_,_=>by simp [gt_]
 |s::r,t,p,h,hs=>by
  rw [Ae] at hs;obtain⟨e1,e2⟩:=fq_ h;have a1:=e2 p;have a2:=h p;obtain⟨c1,c2⟩:=qO_ (n:=t.getD p 0+(s:Int)) (k:=s) (by lia) (by lia);obtain⟨q1,q2⟩:=kD_ (r:=r) (t:=t) (p:=p+1) h (by lia);unfold gt_;refine⟨Bf c1 q1, ?_⟩;rw [AL,D6,Int.mul_comm];exact C8 q2 c2 c1 (DC (by decide))
abbrev Tab:=List (List Int×Int)
def d8_ (D:Tab) (g:List Int->Int):Int:=(D.map fun x=>x.2*g x.1).sum
def hH_ (D:Tab) (k:List Int):Int:=((D.find? fun x=>decide (x.1=k)).map (·.2)).getD 0
def l5_ (D:Tab) (k:List Int) (v:Int):Tab:=if(D.any fun x=>decide (x.1=k))=true then D.map (fun x=>if x.1=k then(x.1,v) else x) else D++[(k,v)]
def pu_ (D:Tab) (k:List Int) (v:Int):Tab:=l5_ D k (hH_ D k+v)
theorem iX_ (D:Tab) (k:List Int) (v:Int):(l5_ D k v).map (·.1)=if k∈D.map (·.1) then D.map (·.1) else D.map (·.1)++[k]:=by
 unfold l5_;have:(D.any fun x=>decide (x.1=k))=true↔k∈D.map (·.1):=by
  rw [List.any_eq_true,Al];simp
 by_cases h:k∈D.map (·.1)
 .rw [AA h,AA (this.mpr h),Bm];refine BZ fun x _=> ?_;simp only [Function.comp];split<;>rfl
 .rw [A9 h,A9 (fun z=>h (this.mp z)),AH];rfl
theorem hI_ {D:Tab}{k:List Int}{v:Int}{g:List Int->Int} (h:k∉D.map (·.1)):d8_ (l5_ D k v) g=d8_ D g+v*g k/\hH_ D k=0:=by
 have hn:∀x∈D,x.1≠k:=fun x hx e=>h (Al.mpr ⟨x,hx,e⟩);have e1:(D.any fun x=>decide (x.1=k))=false:=by
  rw [List.any_eq_false];intro x hx;simpa using hn x hx
 have e2:D.find? (fun x=>decide (x.1=k))=none:=by
  rw [List.find?_eq_none];intro x hx;simpa using hn x hx
 unfold l5_ hH_ d8_;rw [e1,e2];simp
theorem el_:∀{D:Tab}{k:List Int}{v:Int}{g:List Int->Int},(D.map (·.1)).Nodup->k∈D.map (·.1)->d8_ (D.map fun x=>if x.1=k then(x.1,v) else x) g=d8_ D g+(v-hH_ D k)*g k
 |[],_,_,_,_,h=>by simp at h
 |x::D,k,v,g,nd,h=>by
  rw [AO,BR] at nd;by_cases e:x.1=k
  .subst e;have hn:∀y∈D,y.1≠x.1:=fun y hy e=>nd.1 (Al.mpr ⟨y,hy,e⟩);have e1:(D.map fun y=>if y.1=x.1 then(y.1,v) else y)=D:=by
    conv=>rhs;rw [<-List.map_id D]
    refine BZ fun y hy=> ?_;rw [A9 (hn y hy)];rfl
   have e2:hH_ (x::D) x.1=x.2:=by simp [hH_]
   rw [AO,e1,e2];simp only [d8_,Bz,AO,Ae];rw [Int.sub_mul];lia
  .have hk:k∈D.map (·.1):=by
    rw [AO,AI] at h;rcases h with h|h
    .exact absurd h.symm e
    .exact h
   have ih:=el_ (g:=g) (v:=v) nd.2 hk;have e2:hH_ (x::D) k=hH_ D k:=by simp [hH_,BS,e]
   rw [e2,AO];simp only [d8_,AO,Ae,A9 e] at ih⊢;lia
theorem og_ {D:Tab} (nd:(D.map (·.1)).Nodup) (k:List Int) (v:Int) (g:List Int->Int):d8_ (pu_ D k v) g=d8_ D g+v*g k:=by
 unfold pu_;by_cases h:k∈D.map (·.1)
 .have e:(D.any fun x=>decide (x.1=k))=true:=by
   rw [List.any_eq_true];obtain⟨x,hx,e⟩:=Al.mp h;exact⟨x,hx,BC e⟩
  unfold l5_;rw [AA e,el_ nd h];rw [show hH_ D k+v-hH_ D k=v by lia]
 .obtain⟨e1,e2⟩:=hI_ (v:=hH_ D k+v) (g:=g) h;rw [e1,e2];simp
theorem qj_ {D:Tab} (nd:(D.map (·.1)).Nodup) (k:List Int) (v:Int):((l5_ D k v).map (·.1)).Nodup:=by
 rw [iX_];split
 .exact nd
 .rename_i h;rw [List.nodup_append];exact⟨nd,by simp,fun a ha b hb=>by simp at hb;subst hb;exact fun e=>h (e▸ha)⟩
structure TabOk (d n:Nat) (D:Tab):Prop where
 nd:(D.map (·.1)).Nodup
 key:∀x∈D,x.1.length=d/\x.1.sum=(n:Int)/\∀i:Nat,0<=x.1.getD i 0
theorem TabOk.add {d n:Nat}{D:Tab} (h:TabOk d n D) {k:List Int}{v:Int} (hk:k.length=d/\k.sum=(n:Int)/\∀i:Nat,0<=k.getD i 0):TabOk d n (pu_ D k v):=by
 refine⟨qj_ h.nd _ _,fun x hx=> ?_⟩;have:x.1∈(l5_ D k (hH_ D k+v)).map (·.1):=List.mem_map_of_mem hx;rw [iX_] at this;have:x.1∈D.map (·.1)\/x.1=k:=by
  split at this
  .exact .inl this
  .rcases Bx.mp this with h|h
   .exact .inl h
   .exact .inr (by simpa using h)
 rcases this with h'|h'
 .obtain⟨y,hy,e⟩:=Al.mp h';rw [<-e];exact h.key y hy
 .rw [h'];exact hk
def inP (t:List Int) (v:Int) (p:Nat) (rs:List (List Nat)) (acc:Tab):Tab:=rs.foldl (fun acc r=>pu_ acc (hu_ t p r) (v*gt_ t p r)) acc
def stP (p:Nat) (rs:List (List Nat)) (xs acc:Tab):Tab:=xs.foldl (fun acc x=>inP x.1 x.2 p rs acc) acc
def pn_ (g:List Int->Int) (p:Nat) (rs:List (List Nat)) (t:List Int):Int:=(rs.map fun r=>gt_ t p r*g (hu_ t p r)).sum
def l2_ (p d n n':Nat) (rs:List (List Nat)):Prop:=∀r∈rs,p+r.length<=d/\n+r.sum=n'
theorem oY_ {d n n' p:Nat}{r:List Nat}{t:List Int} (h:t.length=d/\t.sum=(n:Int)/\∀i:Nat,0<=t.getD i 0) (hr:p+r.length<=d/\n+r.sum=n'):(hu_ t p r).length=d/\(hu_ t p r).sum=(n':Int)/\∀i:Nat,0<=(hu_ t p r).getD i 0:=by
 obtain⟨e1,e2,e3⟩:=l1_ (r:=r) (t:=t) (p:=p) (by rw [h.1];exact hr.1) h.2.2;exact⟨by rw [e1,h.1],by rw [e2,h.2.1,<-hr.2];lia,e3⟩
theorem lu_ {d n n' p:Nat}{t:List Int}{v:Int} (h:t.length=d/\t.sum=(n:Int)/\∀i:Nat,0<=t.getD i 0) (g:List Int->Int):∀{rs:List (List Nat)}{acc:Tab},l2_ p d n n' rs->TabOk d n' acc->TabOk d n' (inP t v p rs acc)/\d8_ (inP t v p rs acc) g=d8_ acc g+v*pn_ g p rs t
 |[],acc,_,ha=>by simp [inP,pn_,ha]
 |r::rs,acc,hr,ha=>by
  have a1:=ha.add (v:=v*gt_ t p r) (oY_ h (hr r (by simp)));obtain⟨b1,b2⟩:=lu_ (v:=v) h g (rs:=rs) (fun r' h'=>hr r' (by simp [h'])) a1;refine⟨b1, ?_⟩;show d8_ (inP t v p rs (pu_ acc (hu_ t p r) (v*gt_ t p r))) g=_;rw [b2,og_ ha.nd];simp only [pn_,AO,Ae];rw [Int.mul_add,Int.mul_assoc];lia
theorem ko_ {d n n' p:Nat}{rs:List (List Nat)} (hr:l2_ p d n n' rs) (g:List Int->Int):∀{xs acc:Tab},(∀x∈xs,x.1.length=d/\x.1.sum=(n:Int)/\∀i:Nat,0<=x.1.getD i 0)->TabOk d n' acc->TabOk d n' (stP p rs xs acc)/\d8_ (stP p rs xs acc) g=d8_ acc g+d8_ xs (pn_ g p rs)
 |[],acc,_,ha=>by simp [stP,d8_,ha]
 |x::xs,acc,hx,ha=>by
  obtain⟨a1,a2⟩:=lu_ (v:=x.2) (hx x (by simp)) g hr ha;obtain⟨b1,b2⟩:=ko_ hr g (xs:=xs) (fun y hy=>hx y (by simp [hy])) a1;refine⟨b1, ?_⟩;show d8_ (stP p rs xs (inP x.1 x.2 p rs acc)) g=_;rw [b2,a2];simp only [d8_,AO,Ae];lia
def TF (cnt:Lf->Nat):List Lf->List Int->Int
 |[],_=>1
 |m::ms,t=>pn_ (TF cnt ms) (m.1-1).toNat (spR (m.2.1-m.1-1).toNat (cnt m)) t
def hmF (d:Nat) (mk:List Lf):Int:=TF (fun m=>mk.count m) (jw_ mk) (List.replicate d 0)
theorem mk_ (D:Tab):d8_ D (fun _=>1)=(D.map (·.2)).sum:=by
 unfold d8_;congr 1
 refine BZ fun x _=> ?_;show x.2*1=x.2;lia
def enc:List Int->Nat
 |[]=>0
 |x::t=>x.toNat+16*enc t
theorem nQ_:∀{t:List Int},(∀i:Nat,0<=t.getD i 0/\t.getD i 0<=15)->enc t<16^t.length
 |[],_=>by simp [enc]
 |x::t,h=>by
  have h0:=h 0;have ih:=nQ_ (t:=t) fun i=>by have:=h (i+1);simpa using this
  simp only [List.getD_cons_zero] at h0;unfold enc;rw [AL,D4];lia
theorem lH_:∀{t u:List Int},t.length=u.length->(∀i:Nat,0<=t.getD i 0/\t.getD i 0<=15)->(∀i:Nat,0<=u.getD i 0/\u.getD i 0<=15)->enc t=enc u->t=u
 |[],[],_,_,_,_=>rfl
 |[],_::_,h,_,_,_=>absurd h (by simp)
 |_::_,[],h,_,_,_=>absurd h (by simp)
 |x::t,y::u,hl,ht,hu,e=>by
  have h0:=ht 0;have h1:=hu 0;simp only [List.getD_cons_zero] at h0 h1;unfold enc at e;have ih:=lH_ (t:=t) (u:=u) (by simpa using hl) (fun i=>by have:=ht (i+1);simpa using this) (fun i=>by have:=hu (i+1);simpa using this) (by lia);rw [ih,show x=y by lia]
theorem iM_:∀(N:Nat) (xs:List Nat),xs.Nodup->(∀x∈xs,x<N)->xs.length<=N
 |0,[],_,_=>A7 _
 |0,x::xs,_,h=>absurd (h x (by simp)) (by lia)
 |N+1,xs,nd,h=>by
  have h1:=iM_ N (xs.filter fun x=>decide (x≠N)) (nd.filter _) fun x hx=>by
   obtain⟨a,b⟩:=List.mem_filter.mp hx;have:=h x a;have:x≠N:=by simpa using b
   lia
  have h2:xs.length<=(xs.filter fun x=>decide (x≠N)).length+1:=by
   clear h1 h;induction xs with
   |nil=>simp
   |cons y ys ih=>
    rw [BR] at nd;by_cases e:y=N
    .subst e;have:(ys.filter fun x=>decide (x≠y))=ys:=by
      rw [List.filter_eq_self];intro z hz;simp;rintro rfl;exact nd.1 hz
     rw [List.filter_cons,A9 (by simp),this,AL];exact A7 _
    .have:=ih nd.2;rw [List.filter_cons,AA (by simpa using e),AL,AL];lia
  lia
theorem TabOk.size {d n:Nat}{D:Tab} (h:TabOk d n D) (hd:d<=5) (hn:n<=15):D.length<=1048576:=by
 have hb:∀x∈D,∀i:Nat,0<=x.1.getD i 0/\x.1.getD i 0<=15:=fun x hx i=>by
  obtain⟨_,e2,e3⟩:=h.key x hx;have:=(fq_ e3).2 i;exact⟨e3 i,by lia⟩
 have:=iM_ (16^d) (D.map fun x=>enc x.1) ?_ ?_
 .rw [A1] at this;have:16^d<=16^5:=C1 (by decide) hd;lia
 .have nd:=h.nd;unfold List.Nodup at nd⊢;rw [List.pairwise_map] at nd⊢;refine List.Pairwise.imp_of_mem (fun{a b} ha hb' hne e=>hne ?_) nd;exact lH_ (by rw [(h.key a ha).1,(h.key b hb').1]) (hb a ha) (hb b hb') e
 .intro x hx;obtain⟨y,hy,rfl⟩:=Al.mp hx;have:=nQ_ (hb y hy);rw [(h.key y hy).1] at this;exact this
def eQ_ (t:List Int):List Key:=t.map Sum.inl
theorem gd_ (t:List Int):(eQ_ t).map kV=t.map V.int:=by unfold eQ_;rw [Bm];rfl
theorem iZ_:∀{t u:List Int},eQ_ t=eQ_ u->t=u
 |[],[],_=>rfl
 |[],_::_,h=>by simp [eQ_] at h
 |_::_,[],h=>by simp [eQ_] at h
 |x::t,y::u,h=>by
  simp only [eQ_,AO,List.cons.injEq,Sum.inl.injEq] at h;rw [h.1,iZ_ (t:=t) (u:=u) h.2]
theorem ge_ {t u:List Int}:eQ_ t=eQ_ u↔t=u:=⟨iZ_,fun e=>by rw [e]⟩
def dd_ (D:Tab):List (List Key×V):=D.map fun x=>(eQ_ x.1,V.int x.2)
theorem iw_ (D:Tab):(dd_ D).length=D.length:=by unfold dd_;rw [A1]
theorem iv_ (D:Tab) (k:List Int) (v:Int):eb_ (dd_ D) (eQ_ k) (.int v)=dd_ (l5_ D k v):=by
 have e:((dd_ D).any fun kv=>decide (kv.1=eQ_ k))=(D.any fun x=>decide (x.1=k)):=by
  unfold dd_;rw [List.any_map];congr 1
  funext x
  simp only [Function.comp,ge_]
 unfold eb_ l5_;rw [e];split
 .unfold dd_;rw [Bm,Bm];refine BZ fun x _=> ?_;simp only [Function.comp,ge_];split<;>rfl
 .unfold dd_;rw [AH];rfl
theorem iu_ (D:Tab) (k:List Int):e4_ (dd_ D) (eQ_ k)=(D.find? fun x=>decide (x.1=k)).map fun x=>V.int x.2:=by
 unfold e4_ dd_;rw [List.find?_map,Option.map_map];have:((fun kv:List Key×V=>decide (kv.1=eQ_ k))∘fun x:List Int×Int=>(eQ_ x.1,V.int x.2))=fun x=>decide (x.1=k):=by
  funext x
  simp only [Function.comp,ge_]
 rw [this];rfl
theorem mj_ (D:Tab) (k:List Int):(e4_ (dd_ D) (eQ_ k)).getD (.int 0)= .int (hH_ D k):=by
 rw [iu_];unfold hH_;cases D.find? fun x=>decide (x.1=k)<;>rfl
theorem oa_ {D:Tab} (nd:(D.map (·.1)).Nodup) {x:List Int×Int} (h:x∈D):e4_ (dd_ D) (eQ_ x.1)=some (.int x.2):=by
 rw [iu_];have:D.find? (fun y=>decide (y.1=x.1))=some x:=by
  induction D with
  |nil=>simp at h
  |cons y D ih=>
   rw [AO,BR] at nd;rcases AI.mp h with rfl|h
   .simp
   .have:y.1≠x.1:=fun e=>nd.1 (Al.mpr ⟨x,h,e.symm⟩);rw [BS,Ak this];exact ih nd.2 h
 rw [this];rfl
theorem kl_ (D:Tab):(dd_ D).map (·.2)=(D.map (·.2)).map V.int:=by unfold dd_;rw [Bm,Bm];rfl
def prD (x:List Int×Int):D:= .t [tI x.1, .i x.2]
theorem nb_ (l:List Lf) (x:Lf):(List.range l.length).countP (fun j=>decide (l.getD j (0,0,0)=x))=l.count x:=by
 have e:(List.range l.length).map (fun j=>l.getD j (0,0,0))=l:=by
  apply List.ext_getElem?;intro i;rw [A6];rcases Bl i l.length with c|c
  .rw [List.getElem?_range c];simp [List.getD,c]
  .rw [List.getElem?_eq_none (by simpa using c),List.getElem?_eq_none c];rfl
 conv=>rhs;rw [<-e]
 rw [List.count,List.countP_map];congr 1
 funext j
 simp only [Function.comp];exact(Bool.beq_eq_decide_eq _ _).symm
theorem hf_:∀(l S:List Lf),S.Nodup->(S.map fun m=>l.count m).sum<=l.length
 |[],S,_=>by
  have:(S.map fun m=>List.count m ([]:List Lf))=S.map fun _=>0:=by simp
  rw [this];induction S with
  |nil=>simp
  |cons a S ih=>rename_i nd;simpa using ih (BR.mp nd).2
 |x::l,S,nd=>by
  have ih:=hf_ l S nd;have:(S.map fun m=>(x::l).count m).sum<=(S.map fun m=>l.count m).sum+1/\(x∉S->(S.map fun m=>(x::l).count m).sum=(S.map fun m=>l.count m).sum):=by
   clear ih;induction S with
   |nil=>simp
   |cons a S ih=>
    obtain⟨n1,n2⟩:=BR.mp nd;obtain⟨i1,i2⟩:=ih n2;simp only [AO,Ae];by_cases e:x=a
    .subst e;have:=i2 n1;rw [List.count_cons_self];exact⟨by lia,fun h=>absurd (by simp) h⟩
    .have e':List.count a (x::l)=List.count a l:=List.count_cons_of_ne e;rw [e'];exact⟨by lia,fun h=>by rw [i2 (fun z=>h (by simp [z]))]⟩
  rw [AL];lia
def da_ (ps:List Lf):Int:=ps.foldl (fun a p=>a*p.2.2^2) 1
def Okw (d:Nat) (p:Lf):Prop:=Okl d p/\1<=p.2.2/\p.2.2<=2^20
def q7_:List Lf->Bool
 |[]=>true
 |x::r=>r.all (fun y=> !(ed_ y x))&&q7_ r
theorem iy_:∀{ps:List Lf},q7_ ps=true->Srt ps
 |[],_=>List.Pairwise.nil
 |x::r,h=>by
  unfold q7_ at h;rw [AN,Av] at h;exact CB.mpr ⟨fun y hy=>by simpa using h.1 y hy,iy_ h.2⟩
def q8_ (d:Nat) (ps:List Lf):Bool:=ps.all (qd_ d)&&(List.range d).all (fun i=>decide (0<=eF ps i))&&q7_ ps
theorem mn_ {d:Nat}{ps:List Lf} (h:q8_ d ps=true):Snd d ps:=by
 unfold q8_ at h;simp only [AN,Av,Af,C0] at h;exact⟨fun p hp=>by have:=fQ_.mp (h.1.1 p hp);lia,fun i hi=>h.1.2 i hi,iy_ h.2⟩
def mJ_ (d:Nat) (x:List Lf):Bool:=q8_ d x&&decide (x.length<=20)&&decide (0<=da_ x)&&decide (da_ x<2^40)
theorem k1_ {d:Nat}{x:List Lf} (h:mJ_ d x=true):Snd d x/\(∀p∈x,Okw d p)/\x.length<=20/\0<=da_ x/\da_ x<2^40:=by
 unfold mJ_ at h;simp only [AN,C0] at h;obtain⟨⟨⟨h1,h2⟩,h3⟩,h4⟩:=h;refine⟨mn_ h1,fun p hp=> ?_,h2,h3,h4⟩;unfold q8_ at h1;simp only [AN,Av] at h1;have:=fQ_.mp (h1.1.1 p hp);exact⟨⟨by lia,by lia,by lia,by lia⟩,by lia,by lia⟩
def W4 (d k:Nat):Prop:=1<=d/\d<=4/\k<=6
def q0_ (d k:Nat):Bool:=okB d k&&(jD_ d k).all (mJ_ d)&&decide ((jD_ d k).length<64)
def w34 (d:Nat):Bool:=(List.range 7).all (q0_ d)
theorem rg_:w34 1=true:=by ac_nf
theorem rf_:w34 2=true:=by ac_nf
theorem re_:w34 3=true:=by ac_nf
theorem rd_:w34 4=true:=by ac_nf
theorem nY_ {d k:Nat} (h:W4 d k):okB d k=true/\(∀x∈jD_ d k,mJ_ d x=true)/\(jD_ d k).length<64:=by
 obtain⟨h1,h2,h3⟩:=h;have a:w34 d=true:=by
  have:d=1\/d=2\/d=3\/d=4:=by lia
  rcases this with rfl|rfl|rfl|rfl
  .exact rg_
  .exact rf_
  .exact re_
  .exact rd_
 have:=Av.mp a k (Af.mpr (by lia));unfold q0_ at this;simp only [AN,C0,Av] at this;exact⟨this.1.1,this.1.2,this.2⟩
def wtG:Int->List Int->Int
 |_,[]=>0
 |i,x::r=>i*x+wtG (i+1) r
def wtF (r:List Int):Int:=wtG 1 r
def rwS (found:List (List Int)) (n:Int):List (List Int):=found.flatMap fun b=>(List.range (n+1).toNat).map fun h:Nat=>b++[(h:Int)]
def rwF (row:List Int):List (List Int):=row.foldl rwS [[]]
def rbF:Nat->List Int->Int->Nat->List (List Int)
 |0,_,_,_=>[]
 |n+1,row,wt,first=>if wt-wtF row=0 then [row] else(List.range (min row.length (wt-wtF row).toNat-first)).flatMap fun j=>rbF n (wmF row (first+j) 1) wt (first+j)
def hC_:List Int->List Int->Int
 |x::a,y::b=>chF x y.toNat*hC_ a b
 |_,_=>1
def wgG:Int->List Int->List Int->List Int
 |i,x::a,y::b=>List.replicate (y-x).toNat i++wgG (i+1) a b
 |_,_,_=>[]
def wgF (r f:List Int):List Int:=wgG 1 r f
structure Ask4 where
 d:Int
 k:Int
 h:List Int
 f:List Int
abbrev Sm4:=Int×List Int×Ask4
def lz_ (q:Ask4) (p:Nat):List Sm4:=if q.f.getD p 0>0 then [(1,[(p:Int)+1],⟨q.d,q.k,wmF q.h p 1,wmF q.f p (-1)⟩)] else []
def jS_ (q:Ask4):List Sm4:=(List.range q.f.length).flatMap (lz_ q)
def ps_ (q:Ask4) (kp fr:List Int):Sm4:=(hC_ q.h kp*hC_ fr q.f,wgF q.f fr,⟨q.d-1,q.k+fr.sum-q.f.sum-q.d+1,kp,fr⟩)
def lE_ (q:Ask4) (kp:List Int):List Sm4:=(rbF 8 q.f (q.d-1-wtF kp) 0).map (ps_ q kp)
def pr_ (q:Ask4):List Sm4:=(rwF q.h).flatMap (lE_ q)
def e7_ (q:Ask4):List Sm4:=jS_ q++pr_ q
def gv_ (ws:List Int):Int:=ws.foldl (· * ·) 1
def nU_:Nat->Ask4->Int
 |0,_=>0
 |n+1,q=>if q.k<0 then 0 else if q.d=1 then(if q.k=0 then 1 else 0) else((e7_ q).map fun x=>x.1*gv_ x.2.1*nU_ n x.2.2).sum
def Nn (t:List Int):Prop:=∀i:Nat,0<=t.getD i 0
theorem Nn.cons {x:Int}{t:List Int}:Nn (x::t)↔0<=x/\Nn t:=by
 constructor
 .intro h;exact⟨h 0,fun i=>h (i+1)⟩
 .rintro⟨a,b⟩ i;cases i with
  |zero=>exact a
  |succ i=>exact b i
theorem bF_:∀{t:List Int}{i:Int},0<=i->Nn t->0<=wtG i t
 |[],_,_,_=>CL 0
 |x::t,i,hi,h=>by
  obtain⟨a,b⟩:=Nn.cons.mp h;have:=bF_ (i:=i+1) (by lia) b;have:=Bf hi a;unfold wtG;lia
theorem b2_:∀{t:List Int}{i:Int},1<=i->Nn t->0<=t.sum/\t.sum<=wtG i t
 |[],_,_,_=>⟨CL 0,CL 0⟩
 |x::t,i,hi,h=>by
  obtain⟨a,b⟩:=Nn.cons.mp h;obtain⟨s1,s2⟩:=b2_ (i:=i+1) (by lia) b;have:1*x<=i*x:=Int.mul_le_mul_of_nonneg_right hi a;rw [Ae];unfold wtG;lia
theorem gx_ {m:Int}:∀{t:List Int}{p:Nat}{i:Int},p<t.length->wtG i (wmF t p m)=wtG i t+(i+p)*m
 |[],p,_,h=>absurd h (by simp)
 |x::t,0,i,_=>by
  show wtG i ((x+m)::t)=wtG i (x::t)+_;unfold wtG;rw [Int.mul_add];simp;lia
 |x::t,p+1,i,h=>by
  have ih:=gx_ (m:=m) (t:=t) (p:=p) (i:=i+1) (by simpa using h);show wtG i (x::wmF t p m)=wtG i (x::t)+_;unfold wtG;rw [ih,show i+1+(p:Int)=i+((p+1:Nat):Int) by lia];lia
theorem jI_ {t:List Int}{p:Nat}{m:Int} (hp:p<t.length) (h:Nn t) (hm:0<=t.getD p 0+m):Nn (wmF t p m):=fun i=>by
 rw [me_ hp];split
 .next e=>rw [<-e];exact hm
 .have:=h i;lia
theorem fY_ {t:List Int}{x:Int} (h:Nn t) (hx:0<=x):Nn (t++[x]):=by
 induction t with
 |nil=>exact Nn.cons.mpr ⟨hx,fun i=>by simp⟩
 |cons y t ih=>
  obtain⟨a,b⟩:=Nn.cons.mp h;exact Nn.cons.mpr ⟨a,ih b⟩
def Le:List Int->List Int->Prop
 |x::a,y::b=>0<=x/\x<=y/\Le a b
 |[],[]=>True
 |_,_=>False
theorem Le.len:∀{a b:List Int},Le a b->a.length=b.length
 |[],[],_=>rfl
 |x::a,y::b,h=>Be (· +1) (Le.len h.2.2)
theorem Le.nn:∀{a b:List Int},Le a b->Nn a/\Nn b
 |[],[],_=>⟨fun i=>by simp,fun i=>by simp⟩
 |x::a,y::b,h=>by
  obtain⟨p,q⟩:=Le.nn h.2.2;exact⟨Nn.cons.mpr ⟨h.1,p⟩,Nn.cons.mpr ⟨by have:=h.1;have:=h.2.1;lia,q⟩⟩
theorem Le.snoc:∀{a b:List Int}{x y:Int},Le a b->0<=x->x<=y->Le (a++[x]) (b++[y])
 |[],[],_,_,_,h1,h2=>⟨h1,h2,trivial⟩
 |_::a,_::b,_,_,h,h1,h2=>⟨h.1,h.2.1,Le.snoc h.2.2 h1 h2⟩
theorem Le.self:∀{a:List Int},Nn a->Le a a
 |[],_=>trivial
 |x::a,h=>by
  obtain⟨p,q⟩:=Nn.cons.mp h;exact⟨p,CL x,Le.self q⟩
theorem Le.wt:∀{a b:List Int}{i:Int},0<=i->Le a b->wtG i a<=wtG i b
 |[],[],_,_,_=>CL 0
 |x::a,y::b,i,hi,h=>by
  have:=Le.wt (i:=i+1) (by lia) h.2.2;have:=Cu h.2.1 hi;unfold wtG;lia
theorem Le.gain:∀{a b:List Int}{i:Int},1<=i->Le a b->a.sum<=b.sum/\b.sum-a.sum<=wtG i b-wtG i a
 |[],[],_,_,_=>by simp [wtG]
 |x::a,y::b,i,hi,h=>by
  obtain⟨g1,g2⟩:=Le.gain (i:=i+1) (by lia) h.2.2;have h1:=h.2.1;have:1*(y-x)<=i*(y-x):=Int.mul_le_mul_of_nonneg_right hi (by lia);have e:i*(y-x)=i*y-i*x:=Int.mul_sub i y x;rw [Ae,Ae];unfold wtG;lia
theorem Le.wm {a b:List Int}{p:Nat} (h:Le a b) (hp:p<b.length):Le a (wmF b p 1):=by
 induction a generalizing b p with
 |nil=>
  cases b with
  |nil=>exact trivial
  |cons y b=>exact h.elim
 |cons x a ih=>
  cases b with
  |nil=>exact h.elim
  |cons y b=>
   cases p with
   |zero=>exact⟨h.1,by show x<=y+1;have:=h.2.1;lia,h.2.2⟩
   |succ p=>exact⟨h.1,h.2.1,ih h.2.2 (by simpa using hp)⟩
theorem kx_ {row t:List Int} (hn:Nn row) (h:t∈rwF row):Le t row:=by
 have go:∀(r2 r1:List Int) (F:List (List Int)),(∀t∈F,Le t r1)->Nn r2->∀t∈r2.foldl rwS F,Le t (r1++r2):=by
  intro r2;induction r2 with
  |nil=>intro r1 F hF _ t ht;rw [Ag];exact hF t ht
  |cons n r2 ih=>
   intro r1 F hF hn t ht;obtain⟨n0,n2⟩:=Nn.cons.mp hn;rw [show r1++n::r2=(r1++[n])++r2 by simp];refine ih (r1++[n]) (rwS F n) (fun u hu=> ?_) n2 t ht;obtain⟨b,hb,hu⟩:=B7.mp hu;obtain⟨k,hk,rfl⟩:=Al.mp hu;have hk:=Af.mp hk;exact(hF b hb).snoc (by lia) (by lia)
 exact go row [] [[]] (fun t ht=>by rw [Aq.mp ht];exact trivial) hn t h
theorem kz_ {F:List (List Int)}{n:Int}:(rwS F n).length=F.length*(n+1).toNat:=by
 unfold rwS;induction F with
 |nil=>simp
 |cons b F ih=>
  rw [BK,AB,ih,A1,BJ,AL,CA,Nat.add_comm]
theorem s0_ (n:Nat):n+1<=2^n:=by
 induction n with
 |zero=>decide
 |succ n ih=>rw [D4];lia
theorem nt_:∀(row:List Int) (F:List (List Int)),Nn row->(row.foldl rwS F).length<=F.length*2^row.sum.toNat
 |[],F,_=>by simp
 |n::row,F,h=>by
  obtain⟨a,b⟩:=Nn.cons.mp h;have ih:=nt_ row (rwS F n) b;rw [kz_] at ih;have s0:=(b2_ (i:=1) (by decide) b).1;rw [Ae,show(n+row.sum).toNat=n.toNat+row.sum.toNat by lia,Nat.pow_add,<-Nat.mul_assoc];refine Az ih (Nat.mul_le_mul_right _ (Nat.mul_le_mul_left _ ?_));rw [show(n+1).toNat=n.toNat+1 by lia];exact s0_ _
theorem oN_ {t:List Int} (h:Nn t) (i:Nat):Nn (t.take i):=fun j=>by
 rw [A5,List.getElem?_take];split
 .have:=h j;rwa [A5] at this
 .simp
theorem ky_ {row:List Int} (hn:Nn row) (hs:row.sum<=5) (i:Nat):(rwF (row.take i)).length<=32:=by
 have nt:Nn (row.take i):=fun j=>by
  rw [A5,List.getElem?_take];split
  .have:=hn j;rwa [A5] at this
  .simp
 have st:(row.take i).sum<=5:=by
  have e:(row.take i).sum+(row.drop i).sum=row.sum:=by rw [<-Bi,List.take_append_drop]
  have nd:Nn (row.drop i):=fun j=>by
   rw [A5,List.getElem?_drop];have:=hn (i+j);rwa [A5] at this
  have:=(b2_ (i:=1) (by decide) nd).1;lia
 have h:=nt_ (row.take i) [[]] nt;have s0:=(b2_ (i:=1) (by decide) nt).1;have:2^(row.take i).sum.toNat<=2^5:=C1 (by decide) (by lia);unfold rwF;simp only [AL,B8] at h;lia
theorem nw_ {wt:Int}:∀{n:Nat}{row t:List Int}{first:Nat},t∈rbF n row wt first->Nn row->∀{a:List Int},Le a row->Le a t/\wtF t=wt
 |0,_,_,_,h,_,_,_=>nomatch h
 |n+1,row,t,first,h,hn,a,ha=>by
  unfold rbF at h;split at h
  .next e=>rw [Aq.mp h];exact⟨ha,by lia⟩
  .obtain⟨j,hj,h⟩:=B7.mp h;have hj:=Af.mp hj;have hp:first+j<row.length:=by lia
   exact nw_ h (jI_ hp hn (by have:=hn (first+j);lia)) (ha.wm hp)
theorem kF_ {wt:Int}:∀{n:Nat}{row:List Int}{first:Nat},row.length<=5->(rbF n row wt first).length<=5^n
 |0,_,_,_=>AK _
 |n+1,row,first,h=>by
  unfold rbF;split
  .exact Nat.one_le_pow _ _ (by decide)
  .have go:∀m,m<=5->((List.range m).flatMap fun j=>rbF n (wmF row (first+j) 1) wt (first+j)).length<=m*5^n:=by
    intro m;induction m with
    |zero=>intro _;exact AK _
    |succ m ih=>
     intro hm;rw [B6,B5,AB,CA,BK,List.flatMap_nil,Ag];have:=ih (by lia);have:=kF_ (n:=n) (wt:=wt) (row:=wmF row (first+m) 1) (first:=first+m) (by rw [bx_];exact h);lia
   have:=go (min row.length (wt-wtF row).toNat-first) (by lia);have h5:(min row.length (wt-wtF row).toNat-first)*5^n<=5*5^n:=Nat.mul_le_mul_right _ (by lia);rw [D4,Nat.mul_comm];lia
def ch2:Bool:=(List.range 16).all fun n=>(List.range (n+1)).all fun k=>decide (0<=chF (n:Int) k)&&decide (chF (n:Int) k<=2^n)
theorem qQ_:ch2=true:=by ac_nf
theorem nW_ {n k:Int} (h0:0<=k) (h1:k<=n) (h2:n<=15):0<=chF n k.toNat/\chF n k.toNat<=2^n.toNat:=by
 obtain⟨m,rfl⟩:=Ao (show 0<=n by lia);have h:=qQ_;unfold ch2 at h;rw [Av] at h;have h:=h m (Af.mpr (by lia));rw [Av] at h;have h:=h k.toNat (Af.mpr (by lia));simpa using h
theorem nV_:∀{a b:List Int},Le a b->b.sum<=15->0<=hC_ b a/\hC_ b a<=2^b.sum.toNat
 |[],[],_,_=>by simp [hC_]
 |x::a,y::b,h,hs=>by
  obtain⟨h1,h2,h3⟩:=h;have s0:=(b2_ (i:=1) (by decide) (Le.nn h3).2).1;rw [Ae] at hs;obtain⟨c1,c2⟩:=nV_ h3 (by lia);obtain⟨d1,d2⟩:=nW_ h1 h2 (by lia);rw [Ae,show(y+b.sum).toNat=y.toNat+b.sum.toNat by lia,Int.pow_add];unfold hC_;exact⟨Bf d1 c1,C8 d2 c2 c1 (DC (by decide))⟩
theorem jm_ {a b:List Int} (h:Le a b) (hs:b.sum<=5):0<=hC_ b a/\hC_ b a<=32:=by
 obtain⟨c1,c2⟩:=nV_ h (by lia);have s0:=(b2_ (i:=1) (by decide) (Le.nn h).2).1;have:(2:Int)^b.sum.toNat<=2^5:=by
  have:b.sum.toNat=0\/b.sum.toNat=1\/b.sum.toNat=2\/b.sum.toNat=3\/b.sum.toNat=4\/b.sum.toNat=5:=by lia
  rcases this with e|e|e|e|e|e<;>rw [e]<;>decide
 exact⟨c1,by lia⟩
structure AskOk (L:Nat) (q:Ask4):Prop where
 hl:q.h.length=L
 fl:q.f.length=L
 hn:Nn q.h
 fn:Nn q.f
 wt:wtF q.h+wtF q.f=q.d
 d1:1<=q.d
 dL:q.d<=L
 L5:L<=5
 k6:q.k<=6
def muF (q:Ask4):Int:=6*q.d+q.f.sum
section
variable {L:Nat}{q:Ask4}
theorem AskOk.sums (a:AskOk L q):0<=q.h.sum/\q.h.sum<=5/\0<=q.f.sum/\q.f.sum<=5:=by
 obtain⟨h1,h2⟩:=b2_ (i:=1) (by decide) a.hn;obtain⟨f1,f2⟩:=b2_ (i:=1) (by decide) a.fn;have w1:=bF_ (i:=1) (by decide) a.hn;have w2:=bF_ (i:=1) (by decide) a.fn;have:=a.wt;have:=a.dL;have:=a.L5;unfold wtF at*
 lia
theorem AskOk.held (a:AskOk L q) {x:Sm4} (hx:x∈jS_ q):AskOk L x.2.2/\muF x.2.2+1<=muF q/\x.1=1/\∃w:Int,x.2.1=[w]/\1<=w/\w<=5:=by
 unfold jS_ at hx;obtain⟨p,hp,hx⟩:=B7.mp hx;have hp:=Af.mp hp;unfold lz_ at hx;split at hx
 .next hf=>
  rw [Aq.mp hx];have hp':p<q.h.length:=by rw [a.hl,<-a.fl];exact hp
  have h5:=a.L5;have fl:=a.fl;refine⟨⟨by rw [bx_];exact a.hl,by rw [bx_];exact fl,jI_ hp' a.hn (by have:=a.hn p;lia),jI_ hp a.fn (by lia), ?_,a.d1,a.dL,h5,a.k6⟩, ?_,rfl,_,rfl,by lia,by lia⟩
  .have:=a.wt;show wtF (wmF q.h p 1)+wtF (wmF q.f p (-1))=q.d;unfold wtF at*
   rw [gx_ hp',gx_ hp];lia
  .show 6*q.d+(wmF q.f p (-1)).sum+1<=6*q.d+q.f.sum;rw [fF_ hp];lia
 .cases hx
theorem AskOk.few (a:AskOk L q) (d2:2<=q.d) {kp fr:List Int} (hk:kp∈rwF q.h) (hf:fr∈rbF 8 q.f (q.d-1-wtF kp) 0):AskOk L ⟨q.d-1,q.k+fr.sum-q.f.sum-q.d+1,kp,fr⟩/\6*(q.d-1)+fr.sum+1<=muF q/\Le kp q.h/\Le q.f fr/\fr.sum<=5:=by
 have l1:=kx_ a.hn hk;obtain⟨l2,e⟩:=nw_ hf a.fn (Le.self a.fn);have n1:=(Le.nn l1).1;have n2:=(Le.nn l2).2;have w1:=bF_ (i:=1) (by decide) n1;have w2:=bF_ (i:=1) (by decide) a.fn;obtain⟨g1,g2⟩:=l2.gain (i:=1) (by decide);obtain⟨s1,s2⟩:=b2_ (i:=1) (by decide) n2;have h5:=a.L5;have dL:=a.dL;have k6:=a.k6;have sf:=a.sums;unfold wtF at e w1 w2;refine⟨⟨l1.len.trans a.hl,l2.len.symm.trans a.fl,n1,n2, ?_, ?_, ?_,h5, ?_⟩, ?_,l1,l2, ?_⟩
 .show wtF kp+wtF fr=q.d-1;unfold wtF;lia
 .show 1<=q.d-1;lia
 .show q.d-1<=L;lia
 .show q.k+fr.sum-q.f.sum-q.d+1<=6;lia
 .unfold muF;lia
 .lia
theorem lD_ {x:Sm4} (hx:x∈pr_ q):∃kp∈rwF q.h,∃fr∈rbF 8 q.f (q.d-1-wtF kp) 0,x=ps_ q kp fr:=by
 unfold pr_ at hx;obtain⟨kp,hk,hx⟩:=B7.mp hx;unfold lE_ at hx;obtain⟨fr,hf,rfl⟩:=Al.mp hx;exact⟨kp,hk,fr,hf,rfl⟩
theorem AskOk.less (a:AskOk L q) (d2:2<=q.d) {x:Sm4} (hx:x∈e7_ q):AskOk L x.2.2/\muF x.2.2+1<=muF q:=by
 unfold e7_ at hx;rcases Bx.mp hx with hx|hx
 .exact⟨(a.held hx).1,(a.held hx).2.1⟩
 .obtain⟨kp,hk,fr,hf,rfl⟩:=lD_ hx;obtain⟨h1,h2,_⟩:=a.few d2 hk hf;exact⟨h1,h2⟩
end
theorem AskOk.mu {L:Nat}{q:Ask4} (a:AskOk L q):6<=muF q/\muF q<=35:=by
 have:=a.sums;have:=a.d1;have:=a.dL;have:=a.L5;unfold muF;lia
theorem jk_ {L:Nat}:∀{n m:Nat}{q:Ask4},AskOk L q->muF q<=n->muF q<=m->nU_ n q=nU_ m q
 |0,_,q,a,h,_=>by have:=a.mu;lia
 |_+1,0,q,a,_,h=>by have:=a.mu;lia
 |n+1,m+1,q,a,h1,h2=>by
  unfold nU_;split
  .rfl
  .split
   .rfl
   .next hd=>
    refine Be List.sum (BZ fun x hx=> ?_);obtain⟨b,c⟩:=a.less (by have:=a.d1;lia) hx;rw [jk_ b (n:=n) (m:=m) (by lia) (by lia)]
def cF (q:Ask4):Int:=nU_ 36 q
theorem qT_ {q:Ask4} (h:q.k<0):cF q=0:=AA h
theorem qS_ {q:Ask4} (h:¬q.k<0) (hd:q.d=1):cF q=if q.k=0 then 1 else 0:=by
 unfold cF nU_;rw [A9 h,AA hd]
theorem qR_ {L:Nat}{q:Ask4} (a:AskOk L q) (h:¬q.k<0) (hd:¬q.d=1):cF q=((e7_ q).map fun x=>x.1*gv_ x.2.1*cF x.2.2).sum:=by
 have e:cF q=nU_ 37 q:=jk_ a (by have:=a.mu;lia) (by have:=a.mu;lia);rw [e];unfold nU_;rw [A9 h,A9 hd];rfl
theorem j8_:∀{t:List Int}{i:Int},wtG i (t++[0])=wtG i t
 |[],i=>by simp [wtG]
 |x::t,i=>by
  show i*x+wtG (i+1) (t++[0])=i*x+wtG (i+1) t;rw [j8_]
def trG:List Int->List Int
 |[]=>[]
 |x::r=>if x=0 then trG r else x::r
def trF (t:List Int):List Int:=(trG t.reverse).reverse
def hB_ (n:Nat) (t:List Int):List Int:=t++List.replicate (n-t.length) 0
theorem it_ (t:List Int):trF (t++[0])=trF t:=by
 unfold trF;rw [List.reverse_append];rfl
theorem kj_ {t:List Int}{x:Int} (h:x≠0):trF (t++[x])=t++[x]:=by
 unfold trF;rw [List.reverse_append];show(trG (x::t.reverse)).reverse=_;unfold trG;rw [A9 h];simp
theorem kr_ {α:Type}{t:List α} (h:t≠[]):∃s x,t=s++[x]:=⟨t.dropLast,t.getLast h,(List.dropLast_concat_getLast h).symm⟩
theorem nm_:∀{n:Nat}{t:List Int},t.length=n->(trF t).length<=n/\hB_ n (trF t)=t/\(trF t=[]\/∃s x,trF t=s++[x]/\x≠0)
 |0,t,h=>by
  rw [Bh.mp h];exact⟨A7 _,rfl, .inl rfl⟩
 |n+1,t,h=>by
  obtain⟨s,x,rfl⟩:=kr_ (t:=t) (by rintro rfl;cases h);have hs:s.length=n:=by simpa using h
  by_cases e:x=0
  .subst e;obtain⟨h1,h2,h3⟩:=nm_ hs;rw [it_];refine⟨by lia, ?_,h3⟩;unfold hB_ at h2⊢;rw [show n+1-(trF s).length=(n-(trF s).length)+1 by lia,List.replicate_succ',<-B2,h2]
  .rw [kj_ e];exact⟨by lia,by unfold hB_;rw [h,Ce];simp, .inr ⟨s,x,rfl,e⟩⟩
theorem io_:∀{s:List Int}{x i:Int},wtG i (s++[x])=wtG i s+(i+s.length)*x
 |[],x,i=>by simp [wtG]
 |y::s,x,i=>by
  show i*y+wtG (i+1) (s++[x])=i*y+wtG (i+1) s+_;rw [io_,AL,show i+1+(s.length:Int)=i+((s.length+1:Nat):Int) by lia];lia
theorem jJ_ {s:List Int}{x:Int} (h:Nn (s++[x])):Nn s/\0<=x:=by
 induction s with
 |nil=>exact⟨fun i=>by simp,(Nn.cons.mp h).1⟩
 |cons y s ih=>
  obtain⟨a,b⟩:=Nn.cons.mp h;exact⟨Nn.cons.mpr ⟨a,(ih b).1⟩,(ih b).2⟩
theorem j7_ {n:Nat}:∀{t:List Int}{i:Int},wtG i (t++List.replicate n 0)=wtG i t:=by
 induction n with
 |zero=>intro t i;simp
 |succ n ih=>
  intro t i;rw [List.replicate_succ',<-B2,j8_,ih]
def d3_:Nat->Nat->Nat->List (List Int)
 |_,0,_=>[[]]
 |i,n+1,b=>(List.range (b/i+1)).flatMap fun x=>(d3_ (i+1) n (b-i*x)).map ((x:Int):: ·)
theorem fL_:∀{n i b:Nat}{t:List Int},1<=i->t.length=n->Nn t->wtG (i:Int) t<=b->t∈d3_ i n b
 |0,i,b,t,_,hl,_,_=>by rw [Bh.mp hl];exact AU
 |n+1,i,b,[],_,hl,_,_=>nomatch hl
 |n+1,i,b,x::t,hi,hl,hn,hw=>by
  obtain⟨x0,tn⟩:=Nn.cons.mp hn;obtain⟨m,rfl⟩:=Ao x0;have w:=bF_ (i:=(i:Int)+1) (by lia) tn;unfold wtG at hw;have hm:i*m<=b:=by
   have:((i*m:Nat):Int)=(i:Int)*(m:Int):=Int.natCast_mul i m;lia
  unfold d3_;refine B7.mpr ⟨m,Af.mpr (Nat.lt_succ_of_le ((Nat.le_div_iff_mul_le (by lia)).mpr (by rw [Nat.mul_comm];exact hm))),Al.mpr ⟨t,fL_ (by lia) (by simpa using hl) tn ?_,rfl⟩⟩;have:((i*m:Nat):Int)=(i:Int)*(m:Int):=Int.natCast_mul i m;show wtG ((i:Int)+1) t<=_;lia
def nv_:Bool:=(List.range 6).all fun L=>decide ((d3_ 1 L 5).length<=19)
theorem kB_:nv_=true:=by ac_nf
theorem ox_ (a b:List Int):gv_ (a++b)=gv_ a*gv_ b:=by
 have go:∀(b:List Int) (x:Int),b.foldl (· * ·) x=x*b.foldl (· * ·) 1:=fun b=>by
  induction b with
  |nil=>intro x;simp
  |cons y b ih=>
   intro x;rw [Cy,Cy,ih,ih (1*y),Int.one_mul,Int.mul_assoc]
 unfold gv_;rw [CH,go]
def md_ (b:List Int) (i:Nat):List Int:=List.replicate (b.getD i 0).toNat ((i:Int)+1)
def hF_ (b:List Int):List Int:=(List.range b.length).flatMap (md_ b)
def fpF (d:Nat):List Int->List Int->Nat->List (List Lf×List Int)
 |[],room,_=>[([],room)]
 |w::ws,room,f=>(List.range (d-f)).flatMap fun i=>if w<=room.getD (f+i) 0 then(fpF d ws (wmF room (f+i) (-w)) (if ws.take 1=[w] then f+i else 0)).map fun y=>((((f+i:Nat):Int)+1,(d:Int)+1,w)::y.1,y.2) else []
def fp1 (d:Nat) (w:Int) (ws room:List Int) (f i:Nat):List (List Lf×List Int):=if w<=room.getD (f+i) 0 then(fpF d ws (wmF room (f+i) (-w)) (if ws.take 1=[w] then f+i else 0)).map fun y=>((((f+i:Nat):Int)+1,(d:Int)+1,w)::y.1,y.2) else []
theorem gk_ (d:Nat) (w:Int) (ws room:List Int) (f:Nat):fpF d (w::ws) room f=(List.range (d-f)).flatMap (fp1 d w ws room f):=rfl
def hhF:List Int->List Int->Int
 |[],_=>1
 |w::ws,room=>((List.range room.length).map fun p=>if w<=room.getD p 0 then hhF ws (wmF room p (-w)) else 0).sum
def hh1 (w:Int) (ws room:List Int) (p:Nat):Int:=if w<=room.getD p 0 then hhF ws (wmF room p (-w)) else 0
theorem ly_ (w:Int) (ws room:List Int):hhF (w::ws) room=((List.range room.length).map (hh1 w ws room)).sum:=rfl
theorem jd_ {α β:Type}{g:α->List β}{m:Nat}:∀{xs:List α},(∀x∈xs,(g x).length<=m)->(xs.flatMap g).length<=xs.length*m
 |[],_=>by simp
 |x::xs,h=>by
  have h1:=h x (by simp);have h2:=jd_ (xs:=xs) fun y hy=>h y (by simp [hy]);rw [BK,AB,AL,CA];lia
theorem nN_ {d:Nat} (hd:d<=5):∀{ws room:List Int}{f:Nat},(fpF d ws room f).length<=5^ws.length
 |[],_,_=>by simp [fpF]
 |w::ws,room,f=>by
  rw [gk_];have h:=jd_ (g:=fp1 d w ws room f) (m:=5^ws.length) (xs:=List.range (d-f)) fun i _=>by
   unfold fp1;split
   .rw [A1];exact nN_ hd
   .exact AK _
  rw [BJ] at h;refine Az h ?_;rw [AL,D4,Nat.mul_comm];exact Nat.mul_le_mul_left _ (by lia)
theorem gj_ {d:Nat}:∀{ws room:List Int}{f:Nat}{y:List Lf×List Int},y∈fpF d ws room f->y.1.length=ws.length/\y.2.length=room.length/\∀m∈y.1,1<=m.1/\m.1<m.2.1/\m.2.1<=(d:Int)+1
 |[],room,f,y,h=>by
  unfold fpF at h;rw [Aq.mp h];exact⟨rfl,rfl,fun m hm=>nomatch hm⟩
 |w::ws,room,f,y,h=>by
  rw [gk_] at h;obtain⟨i,hi,h⟩:=B7.mp h;have hi:=Af.mp hi;unfold fp1 at h;split at h
  .obtain⟨z,hz,rfl⟩:=Al.mp h;obtain⟨a,b,c⟩:=gj_ hz;refine⟨by simp [a],by rw [b,bx_],fun m hm=> ?_⟩;rcases AI.mp hm with rfl|hm
   .show 1<=(((f+i:Nat):Int)+1)/\(((f+i:Nat):Int)+1)<(d:Int)+1/\(d:Int)+1<=(d:Int)+1;lia
   .exact c m hm
  .exact nomatch h
theorem nL_:∀{ws room:List Int},room.length<=5->0<=hhF ws room/\hhF ws room<=5^ws.length
 |[],_,_=>by simp [hhF]
 |w::ws,room,h=>by
  rw [ly_];have one:∀p,0<=hh1 w ws room p/\hh1 w ws room p<=5^ws.length:=fun p=>by
   unfold hh1;split
   .exact nL_ (by rw [bx_];exact h)
   .exact⟨CL _,DC (by decide)⟩
  have all:∀n:Nat,0<=((List.range n).map (hh1 w ws room)).sum/\((List.range n).map (hh1 w ws room)).sum<=n*5^ws.length:=fun n=>by
   induction n with
   |zero=>simp
   |succ n ih=>
    rw [B6,AH,Bi];have:=one n;simp only [AO,D5,Ae,List.sum_nil];rw [show((n+1:Nat):Int)*5^ws.length=(n:Int)*5^ws.length+5^ws.length by rw [Int.natCast_add,Int.add_mul];simp];lia
  have a:=all room.length;refine⟨a.1,Int.le_trans a.2 ?_⟩;rw [AL,D6,Int.mul_comm];exact Cu (by lia) (DC (by decide))
theorem n3_:∀(t:List Int),Nn t->((hF_ t).length:Int)=t.sum:=fun t=>by
 have go:∀n:Nat,n<=t.length->Nn t->((((List.range n).flatMap (md_ t)).length:Nat):Int)=(t.take n).sum:=by
  intro n;induction n with
  |zero=>intro _ _;simp
  |succ n ih=>
   intro hn nn;have h0:=nn n;have:=ih (by lia) nn;rw [B6,B5,AB,AW,Bi];have e:t[n]? =some (t.getD n 0):=by rw [A5,A3 (by lia)];rfl
   rw [e];have e2:([n].flatMap (md_ t)).length=(t.getD n 0).toNat:=by simp [md_]
   rw [e2];simp only [Option.toList_some,Ae,List.sum_nil];lia
 intro nn;have:=go t.length (A7 _) nn;rw [AT] at this;exact this
theorem ng_ {t:List Int} (nn:Nn t) (l5:t.length<=5) (hw:wtF t<=5):(hF_ t).length<=5/\∀w∈hF_ t,1<=w/\w<=5:=by
 have h:=n3_ t nn;obtain⟨s1,s2⟩:=b2_ (i:=1) (by decide) nn;unfold wtF at hw;refine⟨by lia,fun w hm=> ?_⟩;unfold hF_ at hm;obtain⟨i,hi,hm⟩:=B7.mp hm;have hi:=Af.mp hi;unfold md_ at hm;have:=(List.mem_replicate.mp hm).2;lia
theorem qk_ {α:Type} [DecidableEq α]:∀{l L:List α},l.Nodup->(∀x∈l,x∈L)->l.length<=L.length
 |[],L,_,_=>AK _
 |x::r,L,nd,h=>by
  rw [BR] at nd;have hx:x∈L:=h x AU;have:=qk_ (L:=L.erase x) nd.2 fun y hy=>(List.mem_erase_of_ne fun e:y=x=>nd.1 (e▸hy)).mpr (h y (AR _ hy));rw [List.length_erase_of_mem hx] at this;have:=List.length_pos_of_mem hx;rw [AL];lia
section
variable {κ:Type} [DecidableEq κ]
def tK (R:List (κ×Int)):List (κ×V):=R.map fun x=>(x.1,V.int x.2)
def l8_:List (κ×Int)->κ->Int
 |[],_=>0
 |(a,b)::r,k=>if a=k then b else l8_ r k
def hA_:List (κ×Int)->κ->Int->List (κ×Int)
 |[],k,v=>[(k,v)]
 |(a,b)::r,k,v=>if a=k then(a,v)::r else(a,b)::hA_ r k v
theorem pC_ (R:List (κ×Int)):(tK R).length=R.length:=by unfold tK;rw [A1]
theorem ix_ (k:κ):∀R:List (κ×Int),e4_ (tK R) k=if k∈R.map (·.1) then some (.int (l8_ R k)) else none
 |[]=>rfl
 |(a,b)::r=>by
  have ih:=ix_ k r;show e4_ ((a,V.int b)::tK r) k=_;by_cases e:a=k
  .subst e;rw [db_ rfl];simp [l8_]
  .rw [dc_ e,ih];have:¬k=a:=fun z=>e z.symm;show _=if k∈a::r.map (·.1) then some (V.int (if a=k then b else l8_ r k)) else none
   rw [A9 e];by_cases h:k∈r.map (·.1)
   .rw [AA h,AA (AR _ h)]
   .rw [A9 h,A9 fun z=>(AI.mp z).elim this h]
theorem gE_ (k:κ) (v:Int):∀R:List (κ×Int),(hA_ R k v).map (·.1)=if k∈R.map (·.1) then R.map (·.1) else R.map (·.1)++[k]
 |[]=>by simp [hA_]
 |(a,b)::r=>by
  have ih:=gE_ k v r;unfold hA_;by_cases e:a=k
  .subst e;simp
  .rw [A9 e,AO,ih];have:¬k=a:=fun z=>e z.symm;show _=if k∈a::r.map (·.1) then a::r.map (·.1) else a::r.map (·.1)++[k]
   by_cases h:k∈r.map (·.1)
   .rw [AA h,AA (AR _ h)]
   .rw [A9 h,A9 fun z=>(AI.mp z).elim this h];rfl
theorem op_ {k:κ}{v:Int}{R:List (κ×Int)} (h:(R.map (·.1)).Nodup):((hA_ R k v).map (·.1)).Nodup:=by
 rw [gE_];by_cases e:k∈R.map (·.1)
 .rw [AA e];exact h
 .rw [A9 e];refine List.nodup_append.mpr ⟨h,by simp,fun a ha b hb z=> ?_⟩;rw [Aq.mp hb] at z;exact e (z▸ha)
theorem iC_ {k:κ}{v:Int}:∀{R:List (κ×Int)}{x:κ×Int},x∈hA_ R k v->x∈R\/x=(k,v)
 |[],x,h=> .inr (Aq.mp h)
 |(a,b)::r,x,h=>by
  unfold hA_ at h;by_cases e:a=k
  .rw [AA e] at h;rcases AI.mp h with h|h
   .exact .inr (by rw [h,e])
   .exact .inl (AR _ h)
  .rw [A9 e] at h;rcases AI.mp h with h|h
   .exact .inl (by rw [h];exact AU)
   .exact(iC_ h).imp (AR _) id
theorem np_ {k:κ}{v:Int}:∀{R:List (κ×Int)},(R.map (·.1)).Nodup->eb_ (tK R) k (.int v)=tK (hA_ R k v)
 |[],_=>rfl
 |(a,b)::r,nd=>by
  rw [AO,BR] at nd;have ih:=np_ (k:=k) (v:=v) nd.2;unfold eb_ at ih⊢;show(if(((a,V.int b)::tK r).any fun kv=>decide (kv.1=k))=true then _ else _)=_;rw [List.any_cons];by_cases e:a=k
  .subst e;rw [BC rfl,Bool.true_or,AA rfl];unfold hA_;rw [AA rfl];show((a,V.int b)::tK r).map _=(a,V.int v)::tK r;rw [AO,AA rfl];congr 1
   conv=>rhs;rw [<-List.map_id (tK r)]
   refine BZ fun x hx=> ?_;obtain⟨y,hy,rfl⟩:=Al.mp hx;rw [A9 fun z=>nd.1 (Al.mpr ⟨y,hy,z⟩)];rfl
  .rw [Ak e,Bool.false_or];unfold hA_;rw [A9 e];show _=(a,V.int b)::tK (hA_ r k v);rw [<-ih];by_cases c:((tK r).any fun kv=>decide (kv.1=k))=true
   .rw [AA c,AA c];show((a,V.int b)::tK r).map _=_;rw [AO,A9 e]
   .rw [A9 c,A9 c];rfl
end
theorem qX_ {ks:List Int}{i:Nat} (h:i<ks.length):atI (ks.map V.int) (i:Int)=some (.int (ks.getD i 0)):=im_ (by rw [A6,A3 h];simp [List.getD,h])
def But (b:Addr) (H H':Hp):Prop:=∀c o,H c=some o->c≠b->H' c=some o
theorem qU_ {z:Int} (h0:0<z) (h1:z<=10^60):z≠0/\z.natAbs<2^512:=by
 have:(10:Nat)^60<2^512:=by decide
 constructor<;>lia
theorem But.of_same {b:Addr}{H H':Hp} (s:al_ H H'):But b H H':=fun c o e _=>s _ _ e
theorem But.trans {b:Addr}{H H' H'':Hp} (s:But b H H') (t:But b H' H''):But b H H'':=fun c o e n=>t c o (s c o e n) n
theorem But.upd {b:Addr}{H:Hp}{o:HO}:But b H (L2.upd H b o):=fun c u e n=>by rw [ak_ n];exact e
theorem But.same {b:Addr}{H H1 H2:Hp} (s:al_ H H1) (nb:H b=none) (t:But b H1 H2):al_ H H2:=fun c o e=>t c o (s c o e) (by rintro rfl;rw [nb] at e;cases e)
theorem jj_ {vs:List V}{k:Nat}:go_ vs none (some (k:Int))=vs.take k:=by
 unfold go_;rw [HT.sIx_nat,HT.sIx_none,List.drop_zero,Nat.sub_zero];exact List.take_eq_take_iff.mpr (by lia)
def pW_ (K:W.Frag):Sp:=fun vs H Q _=>∃(a:Addr) (ns:List Int) (k:Int),vs=[.ref a, .int k]/\SqL K H a (ns.map V.int)/\0<=k/\∀z,Q (.int z) H
def iz_ (K:W.Frag):Sp:=fun vs H Q _=>∃(a:Addr) (ns:List Int),vs=[.ref a]/\SqL K H a (ns.map V.int)/\ns.length<=63/\∀H',Q (.bl true) H'
def ol_ (_:W.Frag):Sp:=fun vs H Q _=>∃x:Int,vs=[.int x]/\∀z,0<=z->Q (.int z) H
def rN_ (_:W.Frag):Sp:=fun vs H Q _=>∃(b:Addr) (m z:Int),vs=[.ref b, .int m]/\H b=some (.lst [.int z])/\0<=z/\0<m/\m<=10^60/\∀y z',0<=y->y<m->0<=z'->Q (.int y) (upd H b (.lst [.int z']))
def stD (x:List Lf×Int):D:= .t [lfs x.1, .i x.2]
def Lok (p:Lf):Prop:=0<=p.2.1-p.1/\p.2.1-p.1<=10/\1<=p.2.2/\p.2.2<=20
def pX_ (_:W.Frag):Sp:=fun vs H Q _=>∃i lo hi:Int,vs=[.int i, .int lo, .int hi]/\lo<=i/\i<=hi/\Q .non H
def pV_ (_:W.Frag):Sp:=fun vs H Q _=>∃i:Int,vs=[.int i]/\1<=i/\i<=5/\Q .non H
def pM_ (_:W.Frag):Sp:=fun vs H Q _=>∃d k:Nat,vs=[.int d, .int k]/\Wide d k/\Q .non H
def pU_ (_:W.Frag):Sp:=fun vs H Q _=>∃(n:Nat) (dv:V) (ps:List Lf),vs=[.int n,dv]/\1<=n/\n<=5/\Is H (lfs ps) dv/\(∀p∈ps,Okl n p)/\∀l H',al_ H H'->H l=none->H' l=some (.lst ((hc_ n ps).map V.int))->Q (.ref l) H'
def pR_ (_:W.Frag):Sp:=fun vs H Q _=>∃(v:V) (p:Lf),vs=[v]/\Is H (lf p) v/\Lok p/\Q (.int (bC_ p)) H
def rG_ (_:W.Frag):Sp:=fun vs H Q _=>∃(d f n:Nat) (sp:Int),vs=[.int d, .int f, .int n, .int sp]/\f<=d/\d<=5/\n<=20/\∀l H',al_ H H'->H l=none->Is H' (lfs (jN_ f (d-f) n sp)) (.ref l)->Q (.ref l) H'
def pS_ (n:Nat) (_:W.Frag):Sp:=fun vs H Q _=>∃(v:V) (ls:List Lf) (wt sp:Int),vs=[v, .int wt, .int sp]/\Is H (lfs ls) v/\(∀p∈ls,Lok p)/\0<=wt/\wt<n/\(cN_ n ls wt sp).length<=1000/\ls.length<=200/\n<=100/\
 ∀l H',al_ H H'->H l=none->Is (nw H H') (.l ((cN_ n ls wt sp).map lfs)) (.ref l)->Q (.ref l) H'
def pL_ (_:W.Frag):Sp:=fun vs H Q _=>∃(d f:Nat) (v:V) (x:List Lf×Int),vs=[.int d, .int ((f+1:Nat):Int),v, .int x.2]/\f<d/\d<=5/\Is H (lfs x.1) v/\stB d f x=true/\
 ∀l H',al_ H H'->H l=none->Is (nw H H') (.l ((ej_ d (f+1) x.1 x.2).map stD)) (.ref l)->Q (.ref l) H'
theorem gc_ {K:W.Frag}{n:String}:W.kitOne K (.type n) (.type n)=some true:=by
 unfold W.kitOne;simp
theorem i3_ {H:Hp}{Wq:List (List Lf)}{vs:List V} (h:Iss H (Wq.map lfs) vs):∀(l:List Nat),(∀i∈l,i<Wq.length)->Iss H ((l.map fun i=>Wq.getD i []).map lfs) (l.map fun i=>vs.getD i .non)
 |[],_=>ao_
 |i::l,hl=>by
  have hi:i<Wq.length:=hl i (by simp);have hr:i<vs.length:=by rw [h.length,A1];exact hi
  refine ai_ ?_ (i3_ h l fun j hj=>hl j (by simp [hj]));obtain⟨d,hd,h1⟩:=h.of_get (A3 hr);rw [A6,A3 hi] at hd;cases hd;show Is H (lfs (Wq.getD i [])) (vs.getD i .non);rw [A5,A5,A3 hi,A3 hr];exact h1
theorem qf_ {H:Hp}{x:List Lf×Int}{v:V} (h:Is H (stD x) v):∃t u,v= .ref t/\H t=some (.tup [u, .int x.2])/\Is H (lfs x.1) u:=by
 obtain⟨t,vs,rfl,ht,hi⟩:=fV_ h;obtain⟨u,us,rfl,h1,h2⟩:=aA_ hi;obtain⟨u2,us2,rfl,h3,h4⟩:=aA_ h2;rw [c5_ h3,bh_ h4] at ht;exact⟨t,u,rfl,ht,h1⟩
theorem ms_ {ps:List Lf}:∀x∈ps.map gu_,x.length=3:=fun x hx=>by
 obtain⟨p,_,rfl⟩:=Al.mp hx;rfl
theorem ib_ {H H':Hp}{a:Addr} (k:But a H H'):al_ (hid H a) H':=fun b o e=>by
 have hb:b≠a:=by rintro rfl;rw [mY_] at e;cases e
 rw [lw_ hb] at e;exact k _ _ e hb
theorem du_ {vs:List V}{i:Nat} (h:i<=vs.length):go_ vs (some (i:Int)) none=vs.drop i:=by
 unfold go_;rw [HT.sIx_nat,HT.sIx_none,Nat.min_eq_left h,List.take_of_length_le (by simp)]
theorem Snd.good {d:Nat}{ps:List Lf} (h:Snd d ps):nZ_ d ps:=⟨h.ok,h.nn⟩
theorem Snd.okl {d:Nat}{ps:List Lf} (h:Snd d ps):∀p∈ps,Okl d p:=h.good.okl
theorem qp_ {H:Hp}{p q:Lf}{v:V} (h:Is H (lf p) v) (k:Is H (lf q) v):p=q:=by
 obtain⟨a,rfl,ha⟩:=gQ_ h;obtain⟨b,e,hb⟩:=gQ_ k;cases e;rw [ha] at hb;obtain⟨a1,a2,a3⟩:=p;obtain⟨b1,b2,b3⟩:=q;simp at hb;simp [hb]
theorem pz_ {K:W.Frag}{H:Hp}{wt:List Lf}{m:Lf}{wvs:List V}{v:V} (h:Iss H (wt.map lf) wvs) (k:Is H (lf m) v):sg_ K H 1 wvs v (fun j=>decide (wt.getD j (0,0,0)=m)):=by
 have at_:∀(j:Nat) z,wvs[j]? =some z->Is H (lf (wt.getD j (0,0,0))) z:=fun j z hz=>by
  obtain⟨d,hd,h1⟩:=h.of_get hz;rw [A6] at hd;obtain⟨d',hd',rfl⟩:=A8.mp hd;rw [List.getD,hd'];exact h1
 refine⟨by decide,fun j z hz=>⟨?_,nP_ (at_ j z hz) k⟩,fun i j z hi hj=> ?_⟩
 .obtain⟨a,e,_⟩:=gQ_ (at_ j z hz);exact⟨a,e⟩
 .show decide (wt.getD i (0,0,0)=m)=decide (wt.getD j (0,0,0)=m);rw [qp_ (at_ i z hi) (at_ j z hj)]
def ti (t:List Int):D:=tI t
def rQ_ (_:W.Frag):Sp:=fun vs H Q _=>∃(n:Int) (k:Nat),vs=[.int n, .int k]/\(k:Int)<=n/\n<=15/\Q (.int (chF n k)) H
def sL_ (_:W.Frag):Sp:=fun vs H Q _=>∃(v:V) (t:List Int) (p:Nat) (m:Int),vs=[v, .int p, .int m]/\Is H (tI t) v/\p<t.length/\t.length<=5/\∀u H',al_ H H'->Is H' (tI (wmF t p m)) u->Q u H'
def ta_ (t:List Int) (a:Nat):Prop:=t.length<=5/\(∀i:Nat,0<=t.getD i 0)/\t.sum+(a:Int)<=15
def sM_ (n:Nat) (_:W.Frag):Sp:=fun vs H Q _=>∃(v:V) (t:List Int) (p g a:Nat),vs=[v, .int p, .int ((p:Int)+(g:Int)), .int a]/\Is H (tI t) v/\g<n/\n<=6/\p+g<t.length/\ta_ t a/\∀l H',al_ H H'->H l=none->Is H' (.l ((pbF g t p a).map prD)) (.ref l)->Q (.ref l) H'
def sy_ (d:Nat) (mk:List Lf):Prop:=(∀m∈mk,1<=m.1/\m.1<m.2.1/\m.2.1<=(d:Int)+1)/\mk.length<=15
def rK_ (_:W.Frag):Sp:=fun vs H Q _=>∃(d:Nat) (v:V) (mk:List Lf),vs=[.int d,v]/\1<=d/\d<=5/\Is H (lfs mk) v/\sy_ d mk/\∀H',al_ H H'->Q (.int (hmF d mk)) H'
theorem pB_ {t:List Int}{p:Nat} (H':Hp) (vs:List V) (h:Iss H' (t.map .i) vs):Iss H' ((t.take p).map .i) (go_ vs none (some (p:Int))):=by
 rw [jj_,List.map_take];exact h.take p
theorem n7_ {t:List Int}{p:Nat} (hp:p<=t.length) (H':Hp) (vs:List V) (h:Iss H' (t.map .i) vs):Iss H' ((t.drop p).map .i) (go_ vs (some (p:Int)) none):=by
 rw [du_ (by rw [h.length,A1];exact hp),List.map_drop];exact h.drop p
theorem nB_:∀{g:Nat}{t:List Int}{p a:Nat},(pbF g t p a).length<=(a+1)^g
 |0,t,p,a=>by simp [pbF]
 |g+1,t,p,a=>by
  have go:∀n,n<=a+1->((List.range n).flatMap fun h:Nat=>(pbF g (wmF t p (h:Int)) (p+1) (a-h)).map fun x=>(x.1,chF (t.getD p 0+(h:Int)) h*x.2)).length<=n*(a+1)^g:=by
   intro n hn;induction n with
   |zero=>simp
   |succ n ih=>
    rw [bu_,AB,A1];have h1:=ih (by lia);have h2:=nB_ (g:=g) (t:=wmF t p (n:Int)) (p:=p+1) (a:=a-n);have h3:(a-n+1)^g<=(a+1)^g:=Nat.pow_le_pow_left (by lia) g;rw [CA];lia
  have:=go (a+1) (A7 _);rw [D4,Nat.mul_comm];exact this
theorem mG_ {g:Nat}{t:List Int}{p a:Nat} (hg:g<=5) (ha:a<=15):(pbF g t p a).length<=1048576:=by
 have h1:=nB_ (g:=g) (t:=t) (p:=p) (a:=a);have h2:(a+1)^g<=16^g:=Nat.pow_le_pow_left (by lia) g;have h3:16^g<=16^5:=C1 (by decide) hg;lia
theorem jM_ {n:Nat} (h:n<=1048576):n<sizeLine:=by rw [As];lia
theorem oZ_ {H:Hp}{x:List Int×Int}{t:Addr}{u:V} (h:H t=some (.tup [u, .int x.2])) (k:Is H (tI x.1) u):Is H (prD x) (.ref t):=fs_ h (ai_ k (ai_ d1_ ao_))
theorem oL_ {H:Hp}{x:List Int×Int}{v:V} (h:Is H (prD x) v):∃t u,v= .ref t/\H t=some (.tup [u, .int x.2])/\Is H (tI x.1) u:=by
 obtain⟨t,vs,rfl,ht,hi⟩:=fV_ h;obtain⟨u1,us,rfl,hu1,hi⟩:=aA_ hi;obtain⟨u2,us,rfl,hu2,hi⟩:=aA_ hi;rw [bh_ hi,c5_ hu2] at ht;exact⟨t,u1,rfl,ht,hu1⟩
theorem pA_ {H H':Hp} (s:bD_ H H') {t:List Int}{v:V} (h:Is H (tI t) v):Is H' (tI t) v:=by
 obtain⟨a,rfl,ha⟩:=cg_ h;exact h9_ (s _ _ ha)
theorem iI_ {H H':Hp} (s:bD_ H H') {x:List Int×Int}{v:V} (h:Is H (prD x) v):Is H' (prD x) v:=by
 obtain⟨a,u,rfl,ha,hu⟩:=oL_ h;exact oZ_ (s _ _ ha) (pA_ s hu)
theorem kL_ {H H':Hp} (s:bD_ H H'):∀{xs:List (List Int×Int)}{vs:List V},Iss H (xs.map prD) vs->Iss H' (xs.map prD) vs
 |[],_,h=>by rw [bh_ h];exact ao_
 |x::xs,_,h=>by
  obtain⟨u,us,rfl,q,r⟩:=aA_ h;exact ai_ (iI_ s q) (kL_ s r)
theorem jC_ {r:List Nat}{t:List Int}{p:Nat} (h:∀i:Nat,0<=t.getD i 0) (hs:t.sum+(r.sum:Nat)<=15) (hl:r.length<=5): -(2^64)<gt_ t p r/\gt_ t p r<2^64:=by
 obtain⟨a,b⟩:=kD_ (p:=p) h hs;have:(6435:Int)^r.length<=6435^5:=by
  have:r.length=0\/r.length=1\/r.length=2\/r.length=3\/r.length=4\/r.length=5:=by lia
  rcases this with e|e|e|e|e|e<;>rw [e]<;>decide
 lia
theorem n6_ {K:W.Frag}{H:Hp}{wt:List Lf}{m:Lf}{wvs:List V}{v:V} (h:Iss H (wt.map lf) wvs) (k:Is H (lf m) v):pj_ K H 1 wvs v (fun j=>decide (wt.getD j (0,0,0)=m)):=by
 obtain⟨a,b,c⟩:=pz_ (K:=K) h k;exact⟨a,fun j z hz=>⟨(b j z hz).1,(b j z hz).2.told⟩,c⟩
theorem oi_ (xs:List Lf):(jw_ xs).Nodup:=(hK_ xs).imp fun{a b} h e=>by subst e;exact f4_ h
theorem ha_ {α β:Type} (f:β->α->β) (b:β) (xs:List α) (j:Nat) (x:α) (h:xs[j]? =some x):(xs.take (j+1)).foldl f b=f ((xs.take j).foldl f b) x:=by
 rw [AW,h,CH];rfl
theorem n9_ (cnt:Lf->Nat) (m:Lf) (ms:List Lf):TF cnt (m::ms)=pn_ (TF cnt ms) (m.1-1).toNat (spR (m.2.1-m.1-1).toNat (cnt m)):=by funext t;rfl
theorem ie_ {p:Nat}{rs:List (List Nat)}{D:Tab}{j:Nat}{x:List Int×Int}{acc:Tab} (h:D[j]? =some x):stP p rs (D.take (j+1)) acc=inP x.1 x.2 p rs (stP p rs (D.take j) acc):=ha_ _ _ D j x h
theorem mi_ {H:Hp}{d:Addr}{kvs:List (List Key×V)}{o:HO} (h:H d=some (.dT kvs)):bD_ H (upd H d o):=(LTS.dict h).2
theorem ja_ {κ:Type} [DecidableEq κ] {k:κ}:∀{R:List (κ×Int)},k∈R.map (·.1)->(k,l8_ R k)∈R
 |[],h=>nomatch h
 |(a,b)::r,h=>by
  unfold l8_;by_cases e:a=k
  .rw [AA e,e];exact AU
  .rw [A9 e];rw [AO,AI] at h;exact AR _ (ja_ (h.resolve_left fun z=>e z.symm))
theorem i9_ {κ:Type} [DecidableEq κ] {k:κ}{v:Int}:∀{R:List (κ×Int)},l8_ (hA_ R k v) k=v/\k∈(hA_ R k v).map (·.1)
 |[]=>by simp [hA_,l8_]
 |(a,b)::r=>by
  obtain⟨h1,h2⟩:=i9_ (k:=k) (v:=v) (R:=r);unfold hA_;by_cases e:a=k
  .rw [AA e];exact⟨AA e,by rw [AO,e];exact AU⟩
  .rw [A9 e];exact⟨by unfold l8_;rw [A9 e];exact h1,by rw [AO];exact AR _ h2⟩
def rwL (t:List Int):D:= .l (t.map .i)
def qD (q:Ask4):D:= .t [.i q.d, .i q.k,tI q.h,tI q.f]
def smD (x:Sm4):D:= .t [.i x.1,rwL x.2.1,qD x.2.2]
def kq (q:Ask4):List (Mx Int):=[.inl q.d, .inl q.k, .inr q.h, .inr q.f]
theorem qr_ {q r:Ask4} (h:kq q=kq r):q=r:=by
 obtain⟨a,b,c,d⟩:=q;obtain⟨a',b',c',d'⟩:=r;unfold kq at h;simp only [List.cons.injEq,Sum.inl.injEq,Sum.inr.injEq,and_true] at h;obtain⟨rfl,rfl,rfl,rfl⟩:=h;rfl
theorem o0_ {H:Hp}{q:Ask4}{v:V} (h:Is H (qD q) v):IsK H (kq q) v:=⟨rfl,h⟩
theorem bO_ {H:Hp}{t:List Int}{v:V} (h:Is H (rwL t) v):∃a,v= .ref a/\H a=some (.lst (t.map V.int)):=by
 obtain⟨a,vs,rfl,ha,hi⟩:=b9_ h;rw [ef_ hi] at ha;exact⟨a,rfl,ha⟩
theorem bQ_ {H:Hp}{t:List Int}{a:Addr} (h:H a=some (.lst (t.map V.int))):Is H (rwL t) (.ref a):=co_ h (eg_ t)
theorem nE_ {H0 H:Hp}{t:List Int}{a:Addr} (n:H0 a=none) (h:Is H (rwL t) (.ref a)):Is (nw H0 H) (rwL t) (.ref a):=by
 obtain⟨_,e,ha⟩:=bO_ h;cases e;exact bQ_ (by rw [cm_ n];exact ha)
theorem e6_ {H H':Hp} (t:bD_ H H') {xs:List Int}{v:V} (h:Is H (tI xs) v):Is H' (tI xs) v:=by
 obtain⟨a,rfl,ha⟩:=cg_ h;exact h9_ (t _ _ ha)
theorem ff_ {H H':Hp} (t:bD_ H H'):∀{ts:List (List Int)}{vs:List V},Iss H (ts.map tI) vs->Iss H' (ts.map tI) vs
 |[],_,h=>by rw [bh_ h];exact ao_
 |p::ps,_,h=>by
  obtain⟨u,us,rfl,h1,h2⟩:=aA_ h;exact ai_ (e6_ t h1) (ff_ t h2)
theorem mL_ {H0 H:Hp} (s:al_ H0 H):bD_ H (nw H0 H):=fun a xs e=>fo_ s e
theorem sm_ {H H':Hp} (t:bD_ H H') {q:Ask4}{v:V} (h:Is H (qD q) v):Is H' (qD q) v:=by
 obtain⟨a,vs,rfl,ha,hi⟩:=fV_ h;obtain⟨u1,us,rfl,h1,hi⟩:=aA_ hi;obtain⟨u2,us,rfl,h2,hi⟩:=aA_ hi;obtain⟨u3,us,rfl,h3,hi⟩:=aA_ hi;obtain⟨u4,us,rfl,h4,hi⟩:=aA_ hi;rw [bh_ hi,c5_ h1,c5_ h2] at ha;exact fs_ (t _ _ ha) (ai_ d1_ (ai_ d1_ (ai_ (e6_ t h3) (ai_ (e6_ t h4) ao_))))
def e2_ (t:List Int):Prop:=Nn t/\t.length<=5/\(t=[]\/∃s x,t=s++[x]/\0<x)
def rC_ (_:W.Frag):Sp:=fun vs H Q _=>∃(v:V) (t:List Int),vs=[v]/\Is H (rwL t) v/\t.length<=5/\∀H',al_ H H'->Q (.int (wtF t)) H'
def rB_ (_:W.Frag):Sp:=fun vs H Q _=>∃(v:V) (t:List Int),vs=[v]/\Is H (tI t) v/\t.length<=5/\∀H',al_ H H'->Q (.int (wtF t)) H'
def rE_ (_:W.Frag):Sp:=fun vs H Q _=>∃(v:V) (ws:List Int),vs=[v]/\Is H (rwL ws) v/\(∀w∈ws,1<=w/\w<=5)/\Q (.int (gv_ ws)) H
def rL_ (_:W.Frag):Sp:=fun vs H Q _=>∃(v:V) (t:List Int) (n:Nat),vs=[v, .int n]/\Is H (rwL t) v/\t.length<=n/\n<=5/\∀u H',al_ H H'->Is H' (tI (hB_ n t)) u->Q u H'
def rA_ (_:W.Frag):Sp:=fun vs H Q _=>∃(v:V) (t:List Int),vs=[v]/\Is H (tI t) v/\Nn t/\t.sum<=5/\t.length<=5/\∀l H',al_ H H'->H l=none->Is H' (.l ((rwF t).map tI)) (.ref l)->Q (.ref l) H'
def rD_ (n:Nat) (_:W.Frag):Sp:=fun vs H Q _=>∃(v:V) (t:List Int) (wt:Int) (fi:Nat),vs=[v, .int wt, .int fi]/\Is H (tI t) v/\Nn t/\t.length<=5/\(wt-wtF t).toNat+1<=n/\n<=8/\-1000<=wt/\wt<=1000/\-1000<=wtF t/\wtF t<=1000/\fi<=5/\∀l H',al_ H H'->H l=none->Is H' (.l ((rbF n t wt fi).map tI)) (.ref l)->Q (.ref l) H'
def rP_ (_:W.Frag):Sp:=fun vs H Q _=>∃(v1 v2:V) (b a:List Int),vs=[v1,v2]/\Is H (tI b) v1/\Is H (tI a) v2/\Le a b/\b.sum<=5/\∀H',al_ H H'->Q (.int (hC_ b a)) H'
def rx_ (_:W.Frag):Sp:=fun vs H Q _=>∃(v1 v2:V) (f fr:List Int),vs=[v1,v2]/\Is H (tI f) v1/\Is H (tI fr) v2/\Le f fr/\fr.length<=5/\fr.sum<=5/\∀l H',al_ H H'->H l=none->Is H' (rwL (wgF f fr)) (.ref l)->Q (.ref l) H'
def pO_ (g:Ask4->List Sm4):Sp:=fun vs H Q _=>∃(v1 v2:V) (q:Ask4) (L:Nat),vs=[.int q.d, .int q.k,v1,v2]/\Is H (tI q.h) v1/\Is H (tI q.f) v2/\AskOk L q/\2<=q.d/\∀l H',al_ H H'->H l=none->Is (nw H H') (.l ((g q).map smD)) (.ref l)->Q (.ref l) H'
def rz_ (_:W.Frag):Sp:=fun vs H Q _=>∃(v:V) (q:Ask4) (L:Nat),vs=[v]/\Is H (qD q) v/\AskOk L q/\2<=q.d/\∀l H',al_ H H'->H l=none->Is (nw H H') (.l ((e7_ q).map smD)) (.ref l)->Q (.ref l) H'
theorem kb_:∀{a b:List Int}{k:Int},Le a b->((wgG k a b).length:Int)=b.sum-a.sum
 |[],[],_,_=>rfl
 |x::a,y::b,k,h=>by
  show((List.replicate (y-x).toNat k++wgG (k+1) a b).length:Int)=_;have:=kb_ (k:=k+1) h.2.2;have h1:=h.2.1;rw [AB,BM,Ae,Ae];lia
theorem ni_:∀{a b:List Int}{k:Int},Le a b->∀w∈wgG k a b,k<=w/\w<k+a.length
 |[],[],_,_,w,h=>nomatch h
 |x::a,y::b,k,h,w,hw=>by
  rcases Bx.mp (show w∈List.replicate (y-x).toNat k++wgG (k+1) a b from hw) with hw|hw
  .have:=List.eq_of_mem_replicate hw;rw [AL];lia
  .have:=ni_ h.2.2 w hw;rw [AL];lia
def KnQ (L:Nat) (R:List (List (Mx Int)×Int)):Prop:=(R.map (·.1)).Nodup/\∀x∈R,∃q,AskOk L q/\0<=q.k/\x=(kq q,cF q)
def s7_ (L:Nat):List (List (Mx Int)):=(List.range 6).flatMap fun d:Nat=>(List.range 7).flatMap fun k:Nat=>(d3_ 1 L 5).flatMap fun h=>(d3_ 1 L 5).map fun f=>kq ⟨(d:Int),(k:Int),h,f⟩
theorem eU_ {α β:Type}{g:α->List β}{m:Nat}:∀{xs:List α},(∀x∈xs,(g x).length<=m)->(xs.flatMap g).length<=xs.length*m
 |[],_=>AK _
 |x::xs,h=>by
  rw [BK,AB,AL,CA];have:=eU_ (xs:=xs) fun y hy=>h y (AR _ hy);have:=h x AU;lia
theorem nf_ {L:Nat} (h:L<=5):(s7_ L).length<=15162:=by
 have r:(d3_ 1 L 5).length<=19:=by
  have h1:=kB_;unfold nv_ at h1;rw [Av] at h1;simpa using h1 L (Af.mpr (by lia))
 have e1:∀(d k:Nat) (h':List Int),((d3_ 1 L 5).map fun f=>kq ⟨(d:Int),(k:Int),h',f⟩).length<=19:=fun d k h'=>by rw [A1];exact r
 have e2:∀(d k:Nat),((d3_ 1 L 5).flatMap fun h=>(d3_ 1 L 5).map fun f=>kq ⟨(d:Int),(k:Int),h,f⟩).length<=361:=fun d k=>Az (eU_ fun h' _=>e1 d k h') (by lia);have e3:∀d:Nat,((List.range 7).flatMap fun k:Nat=>(d3_ 1 L 5).flatMap fun h=>(d3_ 1 L 5).map fun f=>kq ⟨(d:Int),(k:Int),h,f⟩).length<=2527:=fun d=>by
  have:=eU_ (xs:=List.range 7) (m:=361) fun k _=>e2 d k;rw [BJ] at this;exact this
 have:=eU_ (xs:=List.range 6) (m:=2527) fun d _=>e3 d;rw [BJ] at this;exact this
theorem KnQ.len {L:Nat}{R:List (List (Mx Int)×Int)} (h:KnQ L R) (h5:L<=5):R.length<=15162:=by
 rw [<-A1 (f:=(·.1))];refine Az (qk_ h.1 fun x hx=> ?_) (nf_ h5);obtain⟨y,hy,rfl⟩:=Al.mp hx;obtain⟨q,a,k0,rfl⟩:=h.2 y hy;have wh:=bF_ (i:=1) (by decide) a.hn;have wf:=bF_ (i:=1) (by decide) a.fn;have w:=a.wt;have d1:=a.d1;have dL:=a.dL;have k6:=a.k6;unfold wtF at w;refine B7.mpr ⟨q.d.toNat,Af.mpr (by lia),B7.mpr ⟨q.k.toNat,Af.mpr (by lia),B7.mpr ⟨q.h,fL_ (by decide) a.hl a.hn (by show wtG 1 q.h<=5;lia),Al.mpr ⟨q.f,fL_ (by decide) a.fl a.fn (by show wtG 1 q.f<=5;lia), ?_⟩⟩⟩⟩;show kq ⟨((q.d.toNat:Nat):Int),((q.k.toNat:Nat):Int),q.h,q.f⟩=kq q;rw [show((q.d.toNat:Nat):Int)=q.d by lia,show((q.k.toNat:Nat):Int)=q.k by lia]
theorem KnQ.get {L:Nat}{R:List (List (Mx Int)×Int)} (h:KnQ L R) {q:Ask4} (hk:kq q∈R.map (·.1)):l8_ R (kq q)=cF q:=by
 obtain⟨r,_,_,e⟩:=h.2 _ (ja_ hk);simp only [BE] at e;rw [e.2,qr_ e.1]
theorem KnQ.put {L:Nat}{R:List (List (Mx Int)×Int)} (h:KnQ L R) {q:Ask4} (a:AskOk L q) (k0:0<=q.k):KnQ L (hA_ R (kq q) (cF q)):=
 ⟨op_ h.1,fun x hx=>(iC_ hx).elim (fun hx=>h.2 x hx) fun e=>⟨q,a,k0,e⟩⟩
theorem f3_ {P:Program}{w:World}{H H':Hp}{a:Addr}{kvs:List (List (Mx Int)×V)} (d:DM P w H a kvs) (k:But a H H'):LTS H H':=by
 obtain⟨_,_,xs,_,e⟩:=d;exact⟨fun b ys h=>k _ _ h (by rintro rfl;rw [e] at h;cases h),fun b ys h=>k _ _ h (by rintro rfl;rw [e] at h;cases h)⟩
def rO_ (P:Program) (w:World) (n:Nat):Sp:=fun vs H Q _=>∃(v:V) (kn:Addr) (q:Ask4) (L:Nat) (R:List (List (Mx Int)×Int)),vs=[v, .ref kn]/\Is H (qD q) v/\AskOk L q/\muF q+1<=(n:Int)/\DM P w H kn (tK R)/\KnQ L R/\∀R' H',But kn H H'->DM P w H' kn (tK R')->KnQ L R'->Q (.int (cF q)) H'
theorem mo_ {L:Nat}{q:Ask4} (a:AskOk L q) (d2:2<=q.d) {x:Sm4} (hx:x∈e7_ q):(0<=x.1/\x.1<=1024)/\(∀w∈x.2.1,1<=w/\w<=5)/\x.2.1.length<=5:=by
 unfold e7_ at hx;rcases Bx.mp hx with hx|hx
 .obtain⟨_,_,e1,w,e2,w1,w5⟩:=a.held hx;rw [e1,e2];exact⟨⟨by decide,by decide⟩,fun y hy=>by rw [Aq.mp hy];exact⟨w1,w5⟩,by simp⟩
 .obtain⟨kp,hk,fr,hf,rfl⟩:=lD_ hx;obtain⟨_,_,l1,l2,f5⟩:=a.few d2 hk hf;have c1:=jm_ l1 a.sums.2.1;have c2:=jm_ l2 f5;have m1:=Bf c1.1 c2.1;have m2:=C8 c1.2 c2.2 c2.1 (by decide);refine⟨⟨m1,by show _*_<=1024;lia⟩,fun w hw=> ?_, ?_⟩
  .have:=ni_ (k:=1) l2 w hw;have:=a.fl;have:=a.L5;lia
  .have:=kb_ (k:=1) l2;have:=a.sums;show(wgG 1 q.f fr).length<=5;lia
theorem hR_:∀{ws:List Int},(∀w∈ws,1<=w/\w<=5)->0<=gv_ ws/\gv_ ws<=5^ws.length
 |[],_=>by simp [gv_]
 |w::ws,h=>by
  obtain⟨h1,h2⟩:=hR_ fun x hx=>h x (AR _ hx);obtain⟨w1,w5⟩:=h w AU;rw [show w::ws=[w]++ws from rfl,ox_,show gv_ [w]=w by show 1*w=w;lia];refine⟨Bf (by lia) h1, ?_⟩;rw [AB,Int.pow_add];exact C8 w5 h2 h1 (DC (by decide))
def ok_ (_:W.Frag):Sp:=fun vs H Q _=>∃(dv:V) (ps:List Lf) (d:Nat),vs=[dv]/\Is H (lfs ps) dv/\(∀p∈ps,True/\1<=p.2.2/\p.2.2<=2^20)/\Q (.int (da_ ps)) H
def fpD (y:List Lf×List Int):D:= .t [lfs y.1,tI y.2]
theorem qg_ {H:Hp}{y:List Lf×List Int}{v:V} (h:Is H (fpD y) v):∃t u1 u2,v= .ref t/\H t=some (.tup [u1,u2])/\Is H (lfs y.1) u1/\Is H (tI y.2) u2:=by
 obtain⟨t,vs,rfl,ht,hi⟩:=fV_ h;obtain⟨u1,us,rfl,hu1,hi⟩:=aA_ hi;obtain⟨u2,us,rfl,hu2,hi⟩:=aA_ hi;rw [bh_ hi] at ht;exact⟨t,u1,u2,rfl,ht,hu1,hu2⟩
def rv_ (_:W.Frag):Sp:=fun vs H Q _=>∃(v:V) (t:List Int),vs=[v]/\Is H (rwL t) v/\Nn t/\(hF_ t).length<=20/\∀l H',al_ H H'->H l=none->Is H' (rwL (hF_ t)) (.ref l)->Q (.ref l) H'
def sO_ (n:Nat) (_:W.Frag):Sp:=fun vs H Q _=>∃(d:Nat) (v u:V) (room ws:List Int) (f:Nat),vs=[.int d,v,u, .int f]/\Is H (tI room) v/\Is H (rwL ws) u/\room.length=d/\d<=5/\f<=d/\ws.length<n/\n<=7/\∀l H',al_ H H'->H l=none->Is (nw H H') (.l ((fpF d ws room f).map fpD)) (.ref l)->Q (.ref l) H'
def sN_ (n:Nat) (_:W.Frag):Sp:=fun vs H Q _=>∃(v u:V) (room ws:List Int),vs=[v,u]/\Is H (tI room) v/\Is H (rwL ws) u/\room.length<=5/\ws.length<n/\n<=7/\∀H',al_ H H'->Q (.int (hhF ws room)) H'
theorem lP_ {vs:List V} (h:1<=vs.length):go_ vs (some 1) none=vs.drop 1:=du_ (i:=1) h
theorem pc_ {v:V}{vs:List V}:go_ (v::vs) (some 1) (some 2)=vs.take 1:=by
 unfold go_;rw [show(some (1:Int))=some ((1:Nat):Int) from rfl,show(some (2:Int))=some ((2:Nat):Int) from rfl,HT.sIx_nat,HT.sIx_nat];simp only [AL];rw [show min 1 (vs.length+1)=1 by lia,List.drop_succ_cons,List.drop_zero];cases vs with
 |nil=>simp
 |cons x vs=>rw [show min 2 ((x::vs).length+1)-1=1 by simp]
theorem qH_ {K:W.Frag}{H:Hp}{v u:V}{a b:List Int} (h:Is H (rwL a) v) (k:Is H (rwL b) u):EqR K H 1 v u (decide (a=b)):=by
 have dp:∀xs:List Int,j3_ (xs.map D.i)=0:=fun xs=>by
  induction xs with
  |nil=>rfl
  |cons x xs ih=>simp [j3_,dep,ih]
 have kn:∀xs ys:List Int,jq_ (xs.map D.i) (ys.map D.i):=fun xs=>by
  induction xs with
  |nil=>intro ys;cases ys<;>simp [jq_]
  |cons x xs ih=>intro ys;cases ys<;>simp [jq_,Kin,ih]
 have e:=h.eqr (K:=K) (n:=1) (by simp [rwL,dep,dp]) (by simpa [rwL,Kin] using kn a b) k;have:∀xs ys:List Int,hb_ (xs.map D.i) (ys.map D.i)=decide (xs=ys):=fun xs=>by
  induction xs with
  |nil=>intro ys;cases ys<;>simp [hb_]
  |cons x xs ih=>intro ys;cases ys<;>simp [hb_,eqD,ih]
 have e2:eqD (rwL a) (rwL b)=decide (a=b):=by simp [rwL,eqD,this]
 rwa [e2] at e
theorem at0 {w:Int}{ws:List Int}:atI ((w::ws).map V.int) 0=some (.int w):=qX_ (ks:=w::ws) (i:=0) (by simp)
theorem sZ_ {n:Nat} (h:n<=6):5^n<=15625:=C1 (n:=5) (by decide) h
def Wd (v u:V):Prop:=∃d k:Nat,v= .int d/\u= .int k/\Wide d k
def rw_ (c:Addr):Sp:=fun vs H Q E=>∃v u,vs=[v,u]/\be_ H v/\be_ H u/\(Wd v u->Q .non H)/\(¬Wd v u->E (.ref c) none H)
theorem W4.wide {d k:Nat} (h:W4 d k):Wide d k:=by unfold W4 at h;unfold Wide;lia
def sP_ (c:Addr):Sp:=fun vs H Q E=>∃v lo hi,vs=[v, .int lo, .int hi]/\be_ H v/\(Within lo hi v->Q .non H)/\(¬Within lo hi v->(0<=lo/\lo<=20/\0<=hi/\hi<=20)/\E (.ref c) none H)
theorem ns_:∀a,a<21->∀b,b<21->(decide (((a:Nat):Int).natAbs.log2<1920)&&decide ((Str.empty++Str.ofString "not a whole number from ").length<=sizeLine)&&decide ((Str.empty++Str.ofString "not a whole number from "++Str.ofString (toString ((a:Nat):Int))).length<=sizeLine)&&decide ((Str.empty++Str.ofString "not a whole number from "++Str.ofString (toString ((a:Nat):Int))++Str.ofString " to ").length<=sizeLine)&&decide ((Str.empty++Str.ofString "not a whole number from "++Str.ofString (toString ((a:Nat):Int))++Str.ofString " to "++Str.ofString (toString ((b:Nat):Int))).length<=sizeLine))=true:=by ac_nf
def rI_ (_:W.Frag):Sp:=fun vs H Q _=>∃(b:Addr) (d:Nat) (z:Int),vs=[.ref b, .int d]/\H b=some (.lst [.int z])/\0<=z/\1<=d/\d<=5/\∀t l1 l2 hh ff H',But b H H'->H t=none->H l1=none->H l2=none->l1≠l2->H' t=some (.tup [.ref l1, .ref l2])->H' l1=some (.lst (hh.map V.int))->H' l2=some (.lst (ff.map V.int))->hh.length=d->ff.length=d->Nn hh->Nn ff->wtF hh+wtF ff=(d:Int)->Q (.ref t) H'
def rH_ (_:W.Frag):Sp:=fun vs H Q _=>∃(v:V) (t:List Int),vs=[v]/\Is H (rwL t) v/\t.length<=5/\∀l H',al_ H H'->H l=none->Is H' (rwL (trF t)) (.ref l)->Q (.ref l) H'
theorem px_ {t:List Int}{j:Nat} (hj:j<t.length):atI (t.map V.int) (j:Int)=some (.int (t.getD j 0)):=by
 refine qy_ (j:=j) rfl ?_;rw [A6,A3 hj,A5,A3 hj];rfl
theorem nj_ {t:List Int}{j:Nat}{m:Int}:(t.map V.int).set j (.int (t.getD j 0+m))=(wmF t j m).map V.int:=by
 unfold wmF;rw [List.map_set]
def rM_ (_:W.Frag):Sp:=fun vs H Q _=>∃d k:Nat,vs=[.int d, .int k]/\W4 d k/\∀(L:List (List Lf)) l H',L.Perm (jD_ d k)->al_ H H'->H l=none->Is (nw H H') (.l (L.map lfs)) (.ref l)->Q (.ref l) H'
def j2_ (t:List Int):Prop:=Nn t/\(t=[]\/∃s x,t=s++[x]/\0<x)
def sj_ (H:Hp) (r:V):Prop:=(be_ H r/\∀a xs,r= .ref a->H a≠some (.lst xs))\/∃a,r= .ref a/\H a=some (.dK [])
def sx_ (H:Hp) (r:V):Prop:=∃(a:Addr) (xs:List V) (i:Nat) (x:V),r= .ref a/\H a=some (.lst xs)/\xs[i]? =some x/\(∀j,j<i->∃n:Int,xs[j]? =some (.int n)/\0<=n)/\be_ H x/\∀n:Int,x= .int n->n<0
def sk_ (H:Hp) (r:V):Prop:=∃(a:Addr) (t:List Int),r= .ref a/\H a=some (.lst ((t++[0]).map V.int))/\Nn t
def dy_ (H:Hp) (r:V):Prop:=sj_ H r\/sx_ H r\/sk_ H r
theorem dy_.mono {H H':Hp} (s:al_ H H') {r:V} (h:dy_ H r):dy_ H' r:=by
 rcases h with h|⟨a,xs,i,x,e,ha,hx,p,t,n⟩|⟨a,t,e,ha,n⟩
 .rcases h with⟨t,n⟩|⟨a,e,ha⟩
  .refine .inl (.inl ⟨t.mono s,fun a xs e h=> ?_⟩);rcases t with⟨i,rfl⟩|⟨b,rfl⟩|rfl|⟨x,rfl⟩|⟨b,ys,rfl,hb⟩|⟨b,ys,rfl,hb⟩
   .cases e
   .cases e
   .cases e
   .cases e
   .cases e;exact n _ ys rfl hb
   .cases e;rw [s _ _ hb] at h;cases h
  .exact .inl (.inr ⟨a,e,s _ _ ha⟩)
 .exact .inr (.inl ⟨a,xs,i,x,e,s _ _ ha,hx,p,t.mono s,n⟩)
 .exact .inr (.inr ⟨a,t,e,s _ _ ha,n⟩)
def Bad (d:Int) (H:Hp) (r1 r2:V):Prop:=dy_ H r1\/(∃a,Is H (rwL a) r1/\j2_ a/\dy_ H r2)\/∃a b,Is H (rwL a) r1/\Is H (rwL b) r2/\j2_ a/\j2_ b/\a.length<=5/\b.length<=5/\wtF a+wtF b≠d
theorem Bad.mono {H H':Hp} (s:al_ H H') {d:Int}{r1 r2:V} (h:Bad d H r1 r2):Bad d H' r1 r2:=by
 rcases h with h|⟨a,h1,ra,h⟩|⟨a,b,h1,h2,h⟩
 .exact .inl (h.mono s)
 .exact .inr (.inl ⟨a,h1.mono s,ra,h.mono s⟩)
 .exact .inr (.inr ⟨a,b,h1.mono s,h2.mono s,h⟩)
def rJ_ (_:W.Frag):Sp:=fun vs H Q _=>∃r:V,vs=[r]/\((∃t,Is H (rwL t) r/\j2_ t/\Q (.bl true) H)\/(dy_ H r/\Q (.bl false) H))
def rF_ (c:Addr):Sp:=fun vs H Q E=>∃(d:Int) (r1 r2:V),vs=[.int d,r1,r2]/\((∃a b,Is H (rwL a) r1/\Is H (rwL b) r2/\e2_ a/\e2_ b/\wtF a+wtF b=d/\∀H',al_ H H'->Q .non H')\/(Bad d H r1 r2/\∀H',al_ H H'->E (.ref c) none H'))
def sw_ (cB cE:Addr) (H:Hp) (E:XK) (v u r1 r2:V) (R:Nat->Nat->List Int->List Int->Prop):Prop:=
 (∃(d k:Nat) (a b:List Int),v= .int d/\u= .int k/\W4 d k/\Is H (rwL a) r1/\Is H (rwL b) r2/\e2_ a/\e2_ b/\wtF a+wtF b=d/\a.length<=d/\b.length<=d/\R d k a b)\/(be_ H v/\be_ H u/\¬Wd v u/\E (.ref cB) none H)\/∃d k:Nat,v= .int d/\u= .int k/\Wide d k/\Bad d H r1 r2/\∀H',al_ H H'->E (.ref cE) none H'
def rR_ (cB cE:Addr):Sp:=fun vs H Q E=>∃v u r1 r2,vs=[v,u,r1,r2]/\sw_ cB cE H E v u r1 r2 fun d k a b=>∀y H',al_ H H'->Is H' (qD ⟨d,k,hB_ d a,hB_ d b⟩) y->Q y H'
def om_ (cB cE:Addr):Sp:=fun vs H Q E=>∃v u r1 r2,vs=[v,u,r1,r2]/\sw_ cB cE H E v u r1 r2 fun _ _ _ _=>∀z H',al_ H H'->Q (.int z) H'
def pP_ (_:W.Frag):Sp:=fun vs H Q _=>∃(ra b:Addr) (t:List Int) (z:Int),vs=[.ref ra, .ref b]/\H ra=some (.lst (t.map V.int))/\j2_ t/\t.length<=4/\ra≠b/\H b=some (.lst [.int z])/\0<=z/\∀v z' H',But b H H'->H' b=some (.lst [.int z'])->0<=z'->(dy_ H' v\/∃x:Int,1<=x/\Is H' (rwL (t++[x])) v)->Q v H'
def pT_ (cB cE:Addr):Sp:=fun vs H Q _=>∃(e:Addr) (bd:Bool),vs=[.ref e, .bl bd]/\((bd=true/\H e=some (je_ cB e))\/(bd=false/\H e=some (je_ cE e)))/\∀H',al_ H H'->Q (.bl true) H'
def ry_ (D:Addr->Prop):Sp:=fun vs H Q _=>∃(f:Addr) (d k:Nat) (r1 r2:V) (a b:List Int),vs=[.ref f, .int d, .int k,r1,r2]/\D f/\W4 d k/\Is H (rwL a) r1/\Is H (rwL b) r2/\e2_ a/\e2_ b/\wtF a+wtF b=d/\a.length<=d/\b.length<=d/\∀H',al_ H H'->Q (.bl true) H'
def hy_ (bd:Bool) (H:Hp) (v u r1 r2:V):Prop:=(bd=true/\be_ H v/\be_ H u/\¬Wd v u)\/(bd=false/\∃d k:Nat,v= .int d/\u= .int k/\Wide d k/\Bad d H r1 r2)
theorem hy_.mono {H H':Hp} (s:al_ H H') {bd:Bool}{v u r1 r2:V} (h:hy_ bd H v u r1 r2):hy_ bd H' v u r1 r2:=by
 rcases h with⟨e,a,b,c⟩|⟨e,d,k,e1,e2,w,b⟩
 .exact .inl ⟨e,a.mono s,b.mono s,c⟩
 .exact .inr ⟨e,d,k,e1,e2,w,b.mono s⟩
def pN_ (D:Addr->Prop):Sp:=fun vs H Q _=>∃(f:Addr) (v u r1 r2:V) (bd:Bool),vs=[.ref f,v,u,r1,r2, .bl bd]/\D f/\hy_ bd H v u r1 r2/\∀H',al_ H H'->Q (.bl true) H'
def pQ_ (_:W.Frag):Sp:=fun vs H Q _=>∃(b:Addr) (lo hi z:Int),vs=[.ref b, .int lo, .int hi]/\H b=some (.lst [.int z])/\0<=z/\∀v H',But b H H'->be_ H' v->¬Within lo hi v->Q v H'
theorem be_.int {H:Hp}{i:Int}:be_ H (.int i):= .inl ⟨_,rfl⟩
theorem e2_.inn {t:List Int} (h:e2_ t):j2_ t:=⟨h.1,h.2.2⟩
theorem k3_ {H:Hp}{a:Addr}{t:List Int}{n:Nat}{x:V} (h:H a=some (.lst ((t.map V.int).take n++[x]++(t.map V.int).drop n))) (nn:Nn t) (hn:n<=t.length) (tx:be_ H x) (neg:∀m:Int,x= .int m->m<0):dy_ H (.ref a):=by
 refine .inr (.inl ⟨a,_,n,x,rfl,h, ?_,fun j hj=>⟨t.getD j 0, ?_,nn j⟩,tx,neg⟩)
 .rw [B2,BD (by rw [Ad,A1];lia),Ad,A1,Nat.min_eq_left hn,Ce];rfl
 .rw [B2,Bv (by rw [Ad,A1];lia),List.getElem?_take,AA hj,A6,A5,A3 (by lia)];rfl
section
variable {P:Program}{w:World}{K:W.Frag}{mg:Str->Option Value}{base:Heap} (T:Fns K mg)
theorem cE_:FnOk P w K mg base CX0 1 T.f34 T.d34 ["_law_script","_law_k"] (pW_ K):=by
 refine T.X34.F.ok eo_ (fun vs H Q E h=> ?_) (fun cdv A outer s H vs Q E hr h=> ?_)
 .obtain⟨_,_,_,rfl,_⟩:=h;rfl
 .obtain⟨a,ns,k,rfl,hS,h0,kk⟩:=h;refine⟨_,(ac_ (a2_ (av_ hV_ (pv 1) (aE_ bv_ (by rfl) T.n_len boot_len (aa_ (pv 0) ab_)) (az_ _)) (af_ (ap_ (a4_ bc_ (pv 0) (pv 1) (fun _ _=>rfl)))) ax_)
   (af_ (ap_ ad_))), ?_⟩
  refine⟨_,rfl,_,rfl,a,_,rfl, .inl hS,_,_,rfl,rfl,_,rfl, ?_⟩;refine ee_ (fun h=> ?_) (fun _=>kk 0);rw [A1] at h;have hk:k.toNat<ns.length:=by lia
  refine⟨_,rfl,_,rfl,a,_,k, .int ns[k.toNat],rfl,rfl,hS, ?_,kk _⟩;have e:((k.toNat:Nat):Int)=k:=by lia
  have:=im_ (xs:=ns.map V.int) (j:=k.toNat) (v:= .int ns[k.toNat]) (by simp [hk]);rw [e] at this;exact this
theorem eD_:FnOk P w K mg base CX0 1 T.f0 T.d0 ["thing"] ml_:=by
 refine T.X0.F.ok hM_ (fun vs H Q E h=> ?_) (fun cdv A outer s H vs Q E hr h=> ?_)
 .obtain⟨_,rfl,_⟩:=h;rfl
 .obtain⟨v,rfl,ht,kk⟩:=h;refine⟨_,(af_ (ap_ (iK_ (aE_ dw_ (by rfl) T.n_isinstance Bw (aa_ (pv 0) (aa_ (dG_ (v:= .ty "int") (by rfl) T.n_int boot_int (by rfl)) ab_))) (gM_ (nA_ (aE_ dw_ (by rfl) T.n_isinstance Bw (aa_ (pv 0) (aa_ (dG_ (v:= .ty "bool") (by rfl) T.n_bool boot_bool (by rfl)) ab_)))))))), ?_⟩;rcases ht with⟨i,rfl⟩|⟨b,rfl⟩|rfl|⟨x,rfl⟩|⟨a,xs,rfl,ha⟩|⟨a,xs,rfl,ha⟩
  .exact⟨_,rfl,_,"int",_,true,rfl, .int i,iW_,true,rfl,d0_ ⟨_,rfl,_,"bool",_,false,rfl, .int i,g3_,false,rfl,kk⟩⟩
  .exact⟨_,rfl,_,"int",_,true,rfl, .bl b,g4_,true,rfl,d0_ ⟨_,rfl,_,"bool",_,true,rfl, .bl b,iW_,true,rfl,kk⟩⟩
  .exact⟨_,rfl,_,"int",_,false,rfl, .non,g1_,false,rfl,dQ_ kk⟩
  .exact⟨_,rfl,_,"int",_,false,rfl, .str x,h8_,false,rfl,dQ_ kk⟩
  .exact⟨_,rfl,_,"int",_,false,rfl, .lst ha,g2_,false,rfl,dQ_ kk⟩
  .exact⟨_,rfl,_,"int",_,false,rfl, .tup ha,gb_,false,rfl,dQ_ kk⟩
theorem FnOk.quiet {k:Nat}{f:Addr}{fd:FuncData}{ps:List Str}{sp:Sp} (F:FnOk P w K mg base (CX1 P w) k f fd ps sp):FnOk P w K mg base CX0 k f fd ps (fun vs H Q _=>sp vs H Q E0):=
 ⟨fun vs H Q E h=>F.len vs H Q E0 h,fun A outer s H args us vs Q E hr he hb hv hs=>CV (F.run A outer s H args us vs Q E0 hr he hb hv hs) fun r s' h=>by
  cases r with
  |ok r=>cases r<;>exact h
  |error e=>
   obtain⟨_,_,_,_,_,_,z,_⟩:=h;exact z.elim⟩
theorem bN_:FnOk P w K mg base (CX1 P w) 2 T.f1 T.d1 ["thing","least","greatest"] (sP_ T.c_NoBound):=by
 refine T.X1.F.okx em_ (fun vs H Q E h=> ?_) (fun cdv A outer s H vs Q E hr h hR hp=> ?_)
 .obtain⟨_,_,_,rfl,_⟩:=h;rfl
 .obtain⟨v,lo,hi,rfl,ht,kk,ke⟩:=h;refine⟨_,(af_ (a2_ (fN_ (cQ_ (di_ (ah_ (eD_ T) (hr.mono (by decide)) (by rfl) T.X0.m T.X0.F.kp T.X0.B .nil ar_ (aa_ (pv 0) ab_)))) (fN_ (av_ hV_ (pv 0) (pv 1) (az_ _)) (dT_ (av_ jG_ (pv 0) (pv 2) (az_ _))))).pt (af_ (fO_ hR (by rfl) T.m_NoBound T.x_NoBound rfl (aa_ (oF_ (fP_ ev_ (fP_ (kT_ (pv 1)) (fP_ ev_ (fP_ (kT_ (pv 2)) p2_))))) ab_))) ax_)), ?_⟩;have no:¬Within lo hi v->∀D:Ends,no_ T.c_NoBound E (pJ_ (fun σ H Q=>tJc (tC (.str "not a whole number from ")) (tJc (fun σ H Q=>ob_ 1 σ H fun x H1=>∃i,x= .int i/\i.natAbs.log2<1920/\Q (.str (toString i)) H1) (tJc (tC (.str " to ")) (tJc (fun σ H Q=>ob_ 2 σ H fun x H1=>∃i,x= .int i/\i.natAbs.log2<1920/\Q (.str (toString i)) H1) tJn)))
    Str.empty σ H Q) sn_) D [some v,some (.int lo),some (.int hi)] H:=fun hn D=>by
   obtain⟨⟨l1,l2,l3,l4⟩,he⟩:=ke hn;obtain⟨a,rfl⟩:=Ao l1;obtain⟨b,rfl⟩:=Ao l3;have y:=ns_ a (by lia) b (by lia);have z:=ns_ b (by lia) a (by lia);simp only [AN,C0] at y z;obtain⟨⟨⟨⟨y1,y2⟩,y3⟩,y4⟩,y5⟩:=y;exact⟨_,rfl,y2,_,rfl,_,rfl,y1,_,rfl,y3,_,rfl,y4,_,rfl,_,rfl,z.1.1.1.1,_,rfl,y5,y5,(by show 1<=sizeLine;decide),he⟩
  refine⟨v,rfl,v,rfl,ht,isI v,rfl, ?_⟩;cases hv:isI v with
  |false=>exact d0_ (d0_ (no (fun hw=>by rw [jr_ hw] at hv;cases hv) _))
  |true=>
   obtain⟨i,rfl⟩:∃i,v= .int i:=by
    cases v<;>first|exact⟨_,rfl⟩|cases hv
   refine dQ_ ⟨_,rfl,_,rfl,i,lo,rfl,rfl,_,rfl,ee_ (fun hl=> ?_) (fun hl=> ?_)⟩
   .exact d0_ (no (fun⟨j,e,h1,h2⟩=>by cases e;lia) _)
   .refine⟨_,rfl,_,rfl,i,hi,rfl,rfl,_,rfl,ee_ (fun hg=> ?_) (fun hg=> ?_)⟩
    .exact no (fun⟨j,e,h1,h2⟩=>by cases e;lia) _
    .exact kk ⟨i,rfl,by lia,by lia⟩
theorem d5_:FnOk P w K mg base CX0 2 T.f1 T.d1 ["thing","least","greatest"] (pX_ K):=
 FnOk.imp (FnOk.quiet (bN_ T)) fun vs H Q E ⟨i,lo,hi,e,h1,h2,q⟩=>⟨.int i,lo,hi,e, .inl ⟨_,rfl⟩,fun _=>q,fun h=>absurd ⟨i,rfl,h1,h2⟩ h⟩
theorem fb_:FnOk P w K mg base CX0 3 T.f3 T.d3 ["d"] (pV_ K):=by
 refine T.X3.F.ok e8_ (fun vs H Q E h=> ?_) (fun cdv A outer s H vs Q E hr h=> ?_)
 .obtain⟨_,rfl,_⟩:=h;rfl
 .obtain⟨i,rfl,h1,h2,kk⟩:=h;refine⟨_,(af_ (aN_ (ah_ (d5_ T) (hr.mono (by decide)) (by rfl) T.X1.m T.X1.F.kp T.X1.B .nil ar_ (aa_ (pv 0) (aa_ ad_ (aa_ ad_ ab_)))))), ?_⟩;exact⟨_,rfl,i,1,5,rfl,h1,h2,kk⟩
theorem cA_:FnOk P w K mg base (CX1 P w) 3 T.f2 T.d2 ["d","k"] (rw_ T.c_NoBound):=by
 refine T.X2.F.okx gG_ (fun vs H Q E h=> ?_) (fun cdv A outer s H vs Q E hr h hR hp=> ?_)
 .obtain⟨_,_,rfl,_⟩:=h;rfl
 .obtain⟨v,u,rfl,ht,hu,kk,ke⟩:=h;refine⟨_,(ac_ (aN_ (ah_ (bN_ T) (hr.mono (by decide)) (by rfl) T.X1.m T.X1.F.kp T.X1.B .nil hp (aa_ (pv 0) (aa_ ad_ (aa_ ad_ ab_)))))
   (af_ (aN_ (ah_ (bN_ T) (hr.mono (by decide)) (by rfl) T.X1.m T.X1.F.kp T.X1.B .nil hp (aa_ (pv 1) (aa_ ad_ (aa_ (mC_ (b0_ (v:= .ref T.a_WIDE) (by rfl) T.m_WIDE (by rfl)) (pv 0) (fun _ _=>rfl)) ab_))))))), ?_⟩
  refine⟨_,rfl,v,1,5,rfl,ht,fun⟨i,ei,i1,i2⟩=> ?_,fun hn=>⟨by decide,ke fun⟨d,k,e1,_,hN⟩=>hn ⟨_,e1,by unfold Wide at hN;lia,by unfold Wide at hN;lia⟩⟩⟩;subst ei;obtain⟨d,rfl⟩:=Ao (show 0<=i by lia);have hd:d=1\/d=2\/d=3\/d=4\/d=5:=by lia
  obtain⟨hi,hl,hb,hN⟩:∃hi:Int,([(1,6),(2,6),(3,6),(4,6),(5,3)]:List (Int×Int)).lookup (d:Int)=some hi/\(0<=hi/\hi<=20)/\∀k:Nat,Wide d k↔(k:Int)<=hi:=by
   rcases hd with rfl|rfl|rfl|rfl|rfl
   .exact⟨6,rfl,by decide,fun k=>by unfold Wide;lia⟩
   .exact⟨6,rfl,by decide,fun k=>by unfold Wide;lia⟩
   .exact⟨6,rfl,by decide,fun k=>by unfold Wide;lia⟩
   .exact⟨6,rfl,by decide,fun k=>by unfold Wide;lia⟩
   .exact⟨3,rfl,by decide,fun k=>by unfold Wide;lia⟩
  refine⟨_,rfl,_,rfl,T.a_WIDE,_,d,hi,rfl,T.D_WIDE,rfl,hl,u,0,hi,rfl,hu,fun⟨j,ej,j1,j2⟩=> ?_,fun hn=>⟨⟨by decide,by decide,hb⟩,ke fun⟨d',k,e1,e2,hNk⟩=> ?_⟩⟩
  .obtain⟨k,rfl⟩:=Ao j1;exact kk ⟨d,k,rfl,ej,(hN k).mpr j2⟩
  .obtain rfl:d'=d:=by have:=V.int.inj e1;lia
   exact hn ⟨k,e2,by lia,(hN k).mp hNk⟩
theorem fS_:FnOk P w K mg base CX0 3 T.f2 T.d2 ["d","k"] (pM_ K):=
 FnOk.imp (FnOk.quiet (cA_ T)) fun vs H Q E ⟨d,k,e,hW,q⟩=>⟨.int d, .int k,e, .inl ⟨_,rfl⟩, .inl ⟨_,rfl⟩,fun _=>q,fun h=>absurd ⟨d,k,rfl,rfl,hW⟩ h⟩
theorem fl_:FnOk P w K mg base CX0 4 T.f22 T.d22 ["d","drawing"] (pU_ K):=by
 refine T.X22.F.ok b4_ (fun vs H Q E h=> ?_) (fun cdv A outer s H vs Q E hr h=> ?_)
 .obtain⟨_,_,_,rfl,_⟩:=h;rfl
 .obtain⟨n,dv,ps,rfl,n1',n5',hd,hok,k2⟩:=h;refine⟨_,(ac_ (aN_ (ah_ (fb_ T) (hr.mono (by decide)) (by rfl) T.X3.m T.X3.F.kp T.X3.B .nil ar_ (aa_ (pv 0) ab_)))
   (ac_ (an_ (i:=2) b4_.nd rfl (by trivial) (aj_ c4_ (aw_ (aa_ ad_ ab_)) (pv 0)))
   (ac_ (aJ_ AQ rfl (aQ_ (pv 1)) (bM_ rfl (aq_ (am_ (i:=3) b4_.nd rfl (by trivial)) (aq_ (am_ (i:=4) b4_.nd rfl (by trivial)) (aq_ (am_ (i:=5) b4_.nd rfl (by trivial)) a5_)))) (ac_ (kK_ (pv 2) (aj_ aD_ (pv 3) ad_) i8_ (pv 5) qA_ de_)
   (af_ (kK_ (pv 2) (aj_ aD_ (pv 4) ad_) i8_ (pv 5) i5_ de_))))
   (af_ (ap_ (pv 2)))))), ?_⟩
  refine⟨_,rfl,n,rfl,by lia,by lia, ?_⟩;refine⟨(by show 1<=sizeLine;decide),fun l1 H1 n1 s1 h1=> ?_⟩;refine⟨_,rfl, .i 1,n,co_ h1 (ai_ d1_ ao_),rfl,by lia,by lia,AZ (au_ (by lia)),fun l H2 n2 s2 h2=> ?_⟩;rw [Ai] at h2;obtain⟨_,vs2,e2,hl2,hi2⟩:=b9_ h2;cases e2;rw [<-CC] at hi2;rw [ef_ hi2] at hl2;have s12:=s1.trans s2;obtain⟨da,dvs,rfl,hda,hdi⟩:=b9_ hd;have hlen:dvs.length=ps.length:=by rw [hdi.length,A1]
  refine⟨_,rfl,da,rfl,⟨_,SqL.of (s12 _ _ hda)⟩,aL_ (xs:=dvs) (fun i σ H3=>(∃v3 v4 v5,σ=[some (.int n),some (.ref da),some (.ref l),v3,v4,v5])/\al_ H H3/\H3 l=some (.lst (((ps.take i).foldl dL_ (List.replicate n 1)).map V.int)))
   ⟨⟨none,none,none,rfl⟩,s12,hl2⟩ (fun i σ H3 _ h=>SqL.of (h.2.1 _ _ hda)) ?_ ?_⟩
  .rintro i y σ H3 hi ⟨⟨v3,v4,v5,rfl⟩,s3,hl3⟩;obtain⟨dd,hdd,hy⟩:=hdi.of_get hi;rw [A6] at hdd;obtain⟨p,hp',rfl⟩:=A8.mp hdd;obtain⟨t,rfl,hta⟩:=gQ_ hy;obtain⟨o1,o2,o3,o4⟩:=hok p (AS hp');have el:=(gl_ (ps.take i) (List.replicate n 1) (by simp) fun q hq=>hok q (List.mem_of_mem_take hq)).1;have en:(ps.take (i+1)).foldl dL_ (List.replicate n 1)=dL_ ((ps.take i).foldl dL_ (List.replicate n 1)) p:=by
    rw [AW,hp',CH];rfl
   rw [en];generalize (ps.take i).foldl dL_ (List.replicate n 1)=e at hl3 el⊢;have nl:H l=none:=s1.free n2;refine⟨t,_,rfl,SqT.of (s3 _ _ hta),rfl, ?_⟩;refine⟨_,_,rfl,_,_,rfl,_,_,rfl,rfl, ?_⟩;have j1:(p.1-1).toNat<e.length:=by lia
   have j2:(p.2.1-1).toNat<e.length:=by lia
   have k1:p.1-1=((p.1-1).toNat:Int):=by lia
   have kq:p.2.1-1=((p.2.1-1).toNat:Int):=by lia
   have g1:(e.map V.int)[(p.1-1).toNat]? =some (.int (e.getD (p.1-1).toNat 0)):=by
    exact ic_ j1
   refine⟨_,rfl,_,rfl,_,_,rfl,rfl, ?_⟩;refine⟨l,_,(p.1-1).toNat,_,_,rfl,rfl,k1,SqL.of hl3,g1, ?_⟩;refine⟨_,rfl,_,_,rfl,rfl,l,_,_,(p.1-1).toNat,rfl,rfl,hl3,by rw [k1,A1];exact gf_ j1, ?_⟩;rw [<-map_set];have j2':(p.2.1-1).toNat<(e.set (p.1-1).toNat (e.getD (p.1-1).toNat 0-p.2.2)).length:=by rw [Ba];exact j2
   have g2:((e.set (p.1-1).toNat (e.getD (p.1-1).toNat 0-p.2.2)).map V.int)[(p.2.1-1).toNat]? =some (.int ((e.set (p.1-1).toNat (e.getD (p.1-1).toNat 0-p.2.2)).getD (p.2.1-1).toNat 0)):=by
    exact ic_ j2'
   refine⟨_,rfl,_,rfl,_,_,rfl,rfl, ?_⟩;refine⟨l,_,(p.2.1-1).toNat,_,_,rfl,rfl,kq,SqL.of ae_,g2, ?_⟩;refine⟨_,rfl,_,_,rfl,rfl,l,_,_,(p.2.1-1).toNat,rfl,rfl,ae_,by rw [kq,A1];exact gf_ j2', ?_⟩;rw [<-map_set,n5_];exact⟨⟨_,_,_,rfl⟩,s3.put nl,ae_⟩
  .rintro σ H3 ⟨⟨v3,v4,v5,rfl⟩,s3,hl3⟩;rw [hlen,AT] at hl3;exact⟨_,rfl,k2 l H3 s3 (s1.free n2) hl3⟩
theorem fT_:FnOk P w K mg base CX0 1 T.f23 T.d23 ["lift"] (pR_ K):=by
 refine T.X23.F.ok oq_ (fun vs H Q E h=> ?_) (fun cdv A outer s H vs Q E hr h=> ?_)
 .obtain⟨_,_,rfl,_⟩:=h;rfl
 .obtain⟨v,p,rfl,hv,⟨p1,p2,p3,p4⟩,kk⟩:=h;refine⟨_,(af_ (ap_ (aj_ aD_ (aj_ bl_ (aj_ aD_ (a4_ aO_ (pv 0) ad_ (fun _ _=>rfl)) (a4_ aO_ (pv 0) ad_ (fun _ _=>rfl))) (a4_ aO_ (pv 0) ad_ (fun _ _=>rfl))) ad_))), ?_⟩;refine⟨_,rfl,_,1,_,hv,rfl,rfl,fun u hu=> ?_⟩;rw [c5_ hu];refine⟨_,rfl,_,0,_,hv,rfl,rfl,fun u hu=> ?_⟩;rw [c5_ hu];refine⟨_,_,rfl,rfl,_,rfl,_,2,_,hv,rfl,rfl,fun u hu=> ?_⟩;rw [c5_ hu];exact⟨_,_,rfl,rfl, .inr ⟨by lia,by lia⟩,_,_,rfl,rfl,kk⟩
theorem fU_:FnOk P w K mg base CX0 2 T.f24 T.d24 ["d","floor","weight","spare"] (rG_ K):=by
 refine T.X24.F.ok bA_ (fun vs H Q E h=> ?_) (fun cdv A outer s H vs Q E hr h=> ?_)
 .obtain⟨_,_,_,_,rfl,_⟩:=h;rfl
 .obtain⟨d,f,n,sp,rfl,fd,d5,n20,kk⟩:=h;refine⟨_,(ac_ (an_ (i:=4) bA_.nd rfl (by trivial) (aw_ ab_))
   (ac_ (aJ_ AQ rfl (cy_ (by rfl) T.n_range (aa_ (aj_ aF_ (pv 1) ad_) (aa_ (aj_ aF_ (pv 0) ad_) ab_))) (am_ (i:=5) bA_.nd rfl (by trivial)) (af_ (aJ_ AQ rfl (cy_ (by rfl) T.n_range (aa_ ad_ (aa_ (aj_ aF_ (pv 2) ad_) ab_))) (am_ (i:=6) bA_.nd rfl (by trivial)) (af_ (a2_ (av_ mH_ (ah_ (fT_ T) (hr.mono (by decide)) (by rfl) T.X23.m T.X23.F.kp T.X23.B .nil ar_ (aa_ (aR_ (aa_ (pv 1) (aa_ (pv 5) (aa_ (pv 6) ab_)))) ab_)) (pv 3) (az_ _)) (af_ (aN_ (dF_ Ab BO BN bs_ (pv 4) (aa_ (aR_ (aa_ (pv 1) (aa_ (pv 5) (aa_ (pv 6) ab_)))) ab_)))) ax_)))))
   (af_ (ap_ (pv 4))))), ?_⟩
  refine⟨AK _,fun fo H1 n1 s1 h1=> ?_⟩;refine⟨_,rfl,_,_,rfl,rfl,_,rfl,_,_,rfl,rfl,_,_,rfl,⟨by lia,by lia,by lia,by lia⟩, ?_⟩;rw [show((d:Int)+1-((f:Int)+1)).toNat=d-f by lia];refine bt_ (lo:=(f:Int)+1) (n:=d-f) (fun i σ H2=>(∃v5 v6,σ=[some (.int d),some (.int f),some (.int n),some (.int sp),some (.ref fo),v5,v6])/\al_ H H2/\∃vs,H2 fo=some (.lst vs)/\Iss H2 ((jN_ f i n sp).map lf) vs) ⟨⟨none,none,rfl⟩,s1,[],h1,ao_⟩ ?_ ?_
  .rintro i σ H2 hi ⟨⟨v5,v6,rfl⟩,s2,vs2,hfo2,his2⟩;refine⟨_,rfl,_,_,rfl,rfl,_,_,rfl,⟨by decide,by decide,by lia,by lia⟩, ?_⟩;rw [show((n:Int)+1-1).toNat=n by lia];refine bt_ (lo:=1) (n:=n) (fun j σ H3=>(∃v6,σ=[some (.int d),some (.int f),some (.int n),some (.int sp),some (.ref fo),some (.int ((f:Int)+1+(i:Int))),v6])/\al_ H H3/\∃vs,H3 fo=some (.lst vs)/\Iss H3 ((jN_ f i n sp++l7_ f ((f:Int)+1+(i:Int)) j sp).map lf) vs) ⟨⟨v6,rfl⟩,s2,vs2,hfo2,by simpa [l7_] using his2⟩ ?_ ?_
   .rintro j σ H3 hj ⟨⟨v6,rfl⟩,s3,vs3,hfo3,his3⟩;have vl:vs3.length<=200:=by
     rw [his3.length,A1,AB];have a:=f8_ f n sp i;have b:=iR_ f ((f:Int)+1+(i:Int)) j sp;have:i*n<=5*20:=Nat.mul_le_mul (by lia) n20;lia
    refine⟨_,rfl,_,rfl,_,rfl,(by show 3<=sizeLine;decide),fun t H4 nt s4 ht=>⟨.ref t,((f:Int),(f:Int)+1+(i:Int),1+(j:Int)),rfl,lr_ ht,⟨?_, ?_, ?_, ?_⟩,_,rfl,_,_,rfl,rfl,_,rfl,ee_ (fun c=> ?_) (fun c=> ?_)⟩⟩
    .show 0<=(f:Int)+1+(i:Int)-(f:Int);lia
    .show(f:Int)+1+(i:Int)-(f:Int)<=10;lia
    .show 1<=1+(j:Int);lia
    .show 1+(j:Int)<=20;lia
    .refine⟨_,rfl, .inl ⟨rfl,_,SqL.of (s4 _ _ hfo3)⟩,_,rfl,_,rfl,_,rfl,(by show 3<=sizeLine;decide),fun t2 H5 nt2 s5 ht2=>⟨fo,vs3,_,rfl,rfl,s5 _ _ (s4 _ _ hfo3),au_ (by lia),⟨_,rfl⟩,(s3.trans (s4.trans s5)).put n1,_,ae_, ?_⟩⟩;rw [gW_,AA c,<-B2];refine lp_ (bD_.upd (s5 _ _ (s4 _ _ hfo3))) ?_;rw [AH];exact(his3.mono (s4.trans s5)).append (ai_ (lr_ ht2) ao_)
    .refine⟨⟨_,rfl⟩,s3.trans s4,vs3,s4 _ _ hfo3, ?_⟩;rw [gW_,A9 c,Ag];exact his3.mono s4
   .rintro σ H3 ⟨⟨v6,rfl⟩,s3,vs3,hfo3,his3⟩;exact⟨⟨_,_,rfl⟩,s3,vs3,hfo3,by rw [gX_];exact his3⟩
  .rintro σ H2 ⟨⟨v5,v6,rfl⟩,s2,vs2,hfo2,his2⟩;exact⟨_,rfl,kk fo H2 s2 n1 (co_ hfo2 his2)⟩
theorem fk_:∀n:Nat,FnOk P w K mg base CX0 (n+1) T.f25 T.d25 ["lifts","weight","spare"] (pS_ n K)
 |0=>⟨fun vs H Q E h=>by obtain⟨_,_,_,_,_,_,_,h,h',_⟩:=h;lia,fun A outer s H args us vs Q E _ _ _ _ h=>by obtain⟨_,_,_,_,_,_,_,h,h',_⟩:=h;lia⟩
 |n+1=>by
  have ih:=fk_ n;refine T.X25.F.ok b3_ (fun vs H Q E h=> ?_) (fun cdv A outer s H vs Q E hr h=> ?_)
  .obtain⟨_,_,_,_,rfl,_⟩:=h;rfl
  .obtain⟨v,ls,wt,sp,rfl,hv,hok,w0,w1,hL,hl,hn,kk⟩:=h;refine⟨_,(ac_ (an_ (i:=3) b3_.nd rfl (by trivial) (aw_ (aa_ (aw_ ab_) ab_)))
   (ac_ (aJ_ AQ rfl (hS_ (by rfl) T.n_enumerate (pv 0)) (bM_ rfl (aq_ (am_ (i:=4) b3_.nd rfl (by trivial)) (aq_ (am_ (i:=5) b3_.nd rfl (by trivial)) a5_))) (af_ (a2_ (nx_ (av_ mH_ (a4_ aO_ (pv 5) ad_ (fun _ _=>rfl)) (pv 1) (az_ _)) (kI_ (av_ mH_ (ah_ (fT_ T) (hr.mono (by lia)) (by rfl) T.X23.m T.X23.F.kp T.X23.B .nil ar_ (aa_ (pv 5) ab_)) (pv 2) (az_ _)))).pt (af_ (aJ_ AQ rfl (aQ_ (ah_ ih hr (by rfl) T.X25.m T.X25.F.kp T.X25.B .nil ar_ (aa_ (bo_ cp_ (pv 0) (bL_ (pv 4)) ce_) (aa_ (aj_ aD_ (pv 1) (a4_ aO_ (pv 5) ad_ (fun _ _=>rfl))) (aa_ (aj_ aD_ (pv 2) (ah_ (fT_ T) (hr.mono (by lia)) (by rfl) T.X23.m T.X23.F.kp T.X23.B .nil ar_ (aa_ (pv 5) ab_))) ab_))))) (am_ (i:=6) b3_.nd rfl (by trivial)) (af_ (aN_ (dF_ Ab BO BN bs_ (pv 3) (aa_ (aj_ eC_ (aw_ (aa_ (pv 5) ab_)) (pv 6)) ab_)))))) ax_)))
   (af_ (ap_ (pv 3))))), ?_⟩
   obtain⟨da,dvs,rfl,hda,hdi⟩:=b9_ hv;have dlen:dvs.length=ls.length:=by rw [hdi.length,A1]
   refine⟨AK _,fun e0 H1 ne s1 he=>⟨(by show 1<=sizeLine;decide),fun fo H2 nf s2 hfo=> ?_⟩⟩;have nfH:H fo=none:=s1.free nf;have e0fo:e0≠fo:=by rintro rfl;rw [he] at nf;cases nf
   have acc0:Acc H H2 fo (([[]]:List (List Lf)).map lfs):=⟨[.ref e0],hfo,ai_ (co_ (vs:=[]) (by rw [lw_ e0fo,cm_ ne];exact s2 _ _ he) ao_) ao_⟩;have tot:∀i:Nat,i<ls.length->1+((List.range i).flatMap (dM_ n ls wt sp)).length+(dM_ n ls wt sp i).length<=1000:=fun i hi=>by
    have:=eu_ (dM_ n ls wt sp) hi;rw [eM_,AB,BL] at hL;lia
   refine⟨_,rfl,da,rfl,⟨_,SqL.of (s2 _ _ (s1 _ _ hda))⟩,jc_ (xs:=dvs) (fun i σ H3=>(∃v4 v5 v6,σ=[some (.ref da),some (.int wt),some (.int sp),some (.ref fo),v4,v5,v6])/\al_ H H3/\Acc H H3 fo (([[]]++(List.range i).flatMap (dM_ n ls wt sp)).map lfs)) ⟨⟨none,none,none,rfl⟩,s1.trans s2,by simpa using acc0⟩ (fun i σ H3 _ h=>SqL.of (h.2.1 _ _ hda)) ?_ ?_⟩
   .rintro i y σ H3 pa hi ⟨⟨v4,v5,v6,rfl⟩,s3,hacc⟩ np;obtain⟨dd,hdd,hy⟩:=hdi.of_get hi;rw [A6] at hdd;obtain⟨p,hp',rfl⟩:=A8.mp hdd;have hil:i<ls.length:=(AD.mp hp').1;obtain⟨p1,p2,p3,p4⟩:=id (hok p (AS hp'));have tt:=tot i hil;have s34:al_ H3 (upd H3 pa (.tup [.int i,y])):=al_.new np;have hacc4:=hacc.mono s34;have stay:dM_ n ls wt sp i=[]->Acc H (upd H3 pa (.tup [.int i,y])) fo (([[]]++(List.range (i+1)).flatMap (dM_ n ls wt sp)).map lfs):=fun e=>by
     rw [bu_,e,Ag];exact hacc4
    have hlf:Is (upd H3 pa (.tup [.int i,y])) (lf p) y:=(hy.mono s3).mono s34;refine⟨pa,_,rfl,SqT.of ae_,rfl,_,_,rfl,_,_,rfl,rfl, ?_⟩;generalize upd H3 pa (.tup [.int i,y])=H4 at s34 hacc4 stay hlf⊢;have s4:al_ H H4:=s3.trans s34;refine⟨_,rfl,_,2,_,hlf,rfl,rfl,fun u hu=> ?_⟩;rw [c5_ hu];refine⟨_,rfl,_,_,rfl,rfl,_,rfl,ee_ (fun c1=> ?_) (fun c1=> ?_)⟩
    .refine⟨_,rfl,y,p,rfl,hlf,⟨p1,p2,p3,p4⟩,_,rfl,_,_,rfl,rfl,_,rfl,ee_ (fun c2=> ?_) (fun c2=> ?_)⟩
     .have eG:dM_ n ls wt sp i=(cN_ n (ls.drop i) (wt-p.2.2) (sp-bC_ p)).map (p:: ·):=by
       unfold dM_;rw [hp'];exact AA ⟨c1,c2⟩
      rw [eG,A1] at tt;refine⟨_,rfl,_,rfl,i,rfl,da,_,rfl,SqL.of (s4 _ _ hda), ?_⟩;rw [du_ (by lia)];intro l2 n2;have s45:al_ H4 (upd H4 l2 (.lst (dvs.drop i))):=al_.new n2;have hl2:(upd H4 l2 (.lst (dvs.drop i))) l2=some (.lst (dvs.drop i)):=ae_;generalize upd H4 l2 (.lst (dvs.drop i))=H5 at s45 hl2⊢;have s5:=s4.trans s45;have hdr:Is H5 (lfs (ls.drop i)) (.ref l2):=co_ hl2 (by rw [List.map_drop];exact(hdi.drop i).mono s5);refine⟨_,rfl,_,rfl,_,2,_,hlf.mono s45,rfl,rfl,fun u hu=> ?_⟩;rw [c5_ hu];refine⟨_,_,rfl,rfl,_,rfl,_,rfl,y,p,rfl,hlf.mono s45,⟨p1,p2,p3,p4⟩,_,_,rfl,rfl, ?_⟩;refine⟨.ref l2,ls.drop i,wt-p.2.2,sp-bC_ p,rfl,hdr,fun q hq=>hok q (Ct hq),by lia,by lia,by lia,by rw [Cp];lia,by lia,fun rl H6 s6 nrl hrl=> ?_⟩;obtain⟨vs5,hfo5,hi5⟩:=hacc4.mono s45;have hfo6:H6 fo=some (.lst vs5):=s6 _ _ hfo5;obtain⟨_,rvs,e,hrl',hri⟩:=b9_ hrl;cases e;have hrl6:H6 rl=some (.lst rvs):=a7_ _ _ hrl';have rlfo:rl≠fo:=by rintro rfl;rw [hfo5] at nrl;cases nrl
      have rlen:rvs.length=(cN_ n (ls.drop i) (wt-p.2.2) (sp-bC_ p)).length:=by rw [hri.length,A1]
      have hriH:Iss (hid H6 fo) ((cN_ n (ls.drop i) (wt-p.2.2) (sp-bC_ p)).map lfs) rvs:=(hri.mono (gR_ (al_.refl H5) hfo5)).mono (cM_ a7_);have s56:=s5.trans s6;refine⟨rl,rfl,⟨_,SqL.of hrl6⟩,aL_ (xs:=rvs) (fun j σ H7=>(∃v6,σ=[some (.ref da),some (.int wt),some (.int sp),some (.ref fo),some (.int i),some y,v6])/\al_ H H7/\But fo H6 H7/\Acc H H7 fo (([[]]++(List.range i).flatMap (dM_ n ls wt sp)++((cN_ n (ls.drop i) (wt-p.2.2) (sp-bC_ p)).take j).map (p:: ·)).map lfs)) ⟨⟨_,rfl⟩,s56,fun _ _ e _=>e,by simpa using (hacc4.mono s45).mono s6⟩ (fun j σ H7 _ h=>SqL.of (h.2.2.1 _ _ hrl6 rlfo)) ?_ ?_⟩
      .rintro j x σ H7 hj ⟨⟨v6,rfl⟩,s7,but7,vs7,hfo7,hi7⟩;obtain⟨dd,hdd,hx⟩:=hriH.of_get hj;rw [A6] at hdd;obtain⟨r,hr',rfl⟩:=A8.mp hdd;have hjl:j<(cN_ n (ls.drop i) (wt-p.2.2) (sp-bC_ p)).length:=(AD.mp hr').1;have hx7:Is H7 (lfs r) x:=hx.mono (ib_ but7);have ritem:=(eN_ (fun q hq=>(hok q (Ct hq)).2.2.1) (by lia) (AS hr')).1;have vl:vs7.length<=999:=by
        rw [hi7.length,A1,AB,AB,A1,Ad,BL];lia
       have hy7:Is H7 (lf p) y:=hy.mono s7;refine⟨_,rfl, .inl ⟨rfl,_,SqL.of hfo7⟩,_,rfl,(by show 1<=sizeLine;decide),fun q1 H8 n8 s8 h8=>⟨_,rfl,[lf p],r.map lf,co_ h8 (ai_ (hy7.mono s8) ao_),hx7.mono s8,AZ (au_ (by rw [A1];show 1+r.length<=1000;lia)),fun q2 H9 n9 s9 h9=> ?_⟩⟩;have s79:=s8.trans s9;refine⟨fo,vs7,_,rfl,rfl,s79 _ _ hfo7,au_ (by lia),⟨_,rfl⟩,(s7.trans s79).put nfH,but7.trans ((But.of_same s79).trans But.upd), ?_⟩;rw [AW,hr'];have:=Acc.add s7 s79 hfo7 hi7 (k4_ (ps:=p::r) s79 (s8.free n9) h9);simpa using this
      .rintro σ H7 ⟨⟨v6,rfl⟩,s7,_,hacc7⟩;refine⟨⟨_,_,_,rfl⟩,s7, ?_⟩;rw [rlen,AT,<-eG,B2,<-bu_] at hacc7;exact hacc7
     .refine⟨⟨_,_,_,rfl⟩,s4,stay ?_⟩;unfold dM_;rw [hp'];exact A9 fun z=>c2 z.2
    .refine dQ_ ⟨⟨_,_,_,rfl⟩,s4,stay ?_⟩;unfold dM_;rw [hp'];exact A9 fun z=>c1 z.1
   .rintro σ H3 ⟨⟨v4,v5,v6,rfl⟩,s3,hacc⟩;rw [dlen,<-eM_] at hacc;exact⟨_,rfl,kk fo H3 s3 nfH (hacc.is nfH)⟩
theorem fR_:FnOk P w K mg base CX0 10 T.f26 T.d26 ["d","floor","drawing","spare"] (pL_ K):=by
 refine T.X26.F.ok a8_ (fun vs H Q E h=> ?_) (fun cdv A outer s H vs Q E hr h=> ?_)
 .obtain⟨_,_,_,_,rfl,_⟩:=h;rfl
 .obtain⟨d,f,v,x,rfl,fd,d5,hv,hst,kk⟩:=h;refine⟨_,(ac_ (an_ (i:=4) a8_.nd rfl (by trivial) (a4_ bc_ (ah_ (fl_ T) (hr.mono (by decide)) (by rfl) T.X22.m T.X22.F.kp T.X22.B .nil ar_ (aa_ (pv 0) (aa_ (pv 2) ab_))) (aj_ aD_ (pv 1) ad_) (fun _ _=>rfl)))
   (ac_ (an_ (i:=5) a8_.nd rfl (by trivial) (aw_ ab_))
   (ac_ (aJ_ AQ rfl (aQ_ (ah_ (fk_ T 8) (hr.mono (by decide)) (by rfl) T.X25.m T.X25.F.kp T.X25.B .nil ar_ (aa_ (ah_ (fU_ T) (hr.mono (by decide)) (by rfl) T.X24.m T.X24.F.kp T.X24.B .nil ar_ (aa_ (pv 0) (aa_ (pv 1) (aa_ (pv 4) (aa_ (pv 3) ab_))))) (aa_ (pv 4) (aa_ (pv 3) ab_))))) (am_ (i:=6) a8_.nd rfl (by trivial)) (ac_ (an_ (i:=7) a8_.nd rfl (by trivial) (aj_ aD_ (pv 4) (aE_ (ei_ rfl) (by rfl) T.n_sum boot_sum (aa_ (cK_ (XN:=["d","floor","drawing","spare","there","found","lifts","ends","left"]) (sc:=ag_ bq_) (N:=["lift"]) (own:=1) (js:=[]) rfl (by ac_nf) rfl rfl (aQ_ (pv 6)) (fun _ _ _ _=>(am_ (i:=0) (show List.Nodup (["lift"]:List Str) by ac_nf) rfl (Or.inl rfl) (.inr rfl))) (eB_ (by decide)) (fun _ _ _ _=>dj_) (fun _ _ _ _=>(a4_ aO_ (pv 0) ad_ (fun _ _=>rfl)))) ab_))))
   (ac_ (an_ (i:=8) a8_.nd rfl (by trivial) (aj_ aD_ (aj_ aD_ (pv 3) (aE_ (ei_ rfl) (by rfl) T.n_sum boot_sum (aa_ (cK_ (XN:=["d","floor","drawing","spare","there","found","lifts","ends","left"]) (sc:=ag_ bq_) (N:=["lift"]) (own:=1) (js:=[]) rfl (by ac_nf) rfl rfl (aQ_ (pv 6)) (fun _ _ _ _=>(am_ (i:=0) (show List.Nodup (["lift"]:List Str) by ac_nf) rfl (Or.inl rfl) (.inr rfl))) (eB_ (by decide)) (fun _ _ _ _=>dj_) (fun _ _ _ _=>(ah_ (fT_ T) (hr.mono (by decide)) (by rfl) T.X23.m T.X23.F.kp T.X23.B .nil ar_ (aa_ (pv 0) ab_)))) ab_))) (aj_ bl_ (pv 7) (aj_ aD_ (pv 0) (pv 1)))))
   (af_ (a2_ (av_ kZ_ (pv 8) ad_ (az_ _)) (af_ (aN_ (dF_ Ab BO BN bs_ (pv 5) (aa_ (aR_ (aa_ (aj_ eC_ (pv 2) (pv 6)) (aa_ (pv 8) ab_))) ab_)))) ax_)))))
   (af_ (ap_ (pv 5)))))), ?_⟩
  obtain⟨b1,b2,b3,b4,b5,b6,b7⟩:=oh_ hst;have okl:∀p∈x.1,Okl d p:=fun p hp=>by
   obtain⟨o1,o2,o3,o4,o5⟩:=fQ_.mp (b1 p hp);exact⟨o1,by lia,by lia,o3⟩
  have elen:=jg_ d x.1 okl;refine⟨_,rfl,_,rfl,d,v,x.1,rfl,by lia,d5,hv,okl,fun el H1 s1 nel hel=> ?_⟩;refine⟨_,rfl,_,_,rfl,rfl,el,_,_, .int (thF d (f+1) x.1),rfl,rfl,SqL.of hel,qy_ (j:=f) (by lia) (by rw [ic_ (by lia)];rfl), ?_⟩;unfold ej_ at kk;generalize thF d (f+1) x.1=th at b3 b4 b7 kk⊢;obtain⟨n,rfl⟩:=Ao b3;refine⟨AK _,fun fo H2 nf s2 hfo=> ?_⟩;have nfH:H fo=none:=s1.free nf;have s02:=s1.trans s2;refine⟨_,rfl,_,rfl,_,rfl,_,rfl,d,f+1,n,x.2,rfl,by lia,d5,by lia,fun l0 H3 s3 nl0 hl0=> ?_⟩;refine⟨_,rfl,_,rfl, .ref l0,jN_ ((f+1:Nat):Int) (d-(f+1)) n x.2,(n:Int),x.2,rfl,hl0,fun p hp=> ?_,by lia,by lia, ?_, ?_,by decide,fun rl H4 s4 nrl hrl=> ?_⟩
  .obtain⟨e1,e2,e3,e4,e5⟩:=h6_ hp;exact⟨by lia,by lia,by lia,by lia⟩
  .exact Az b7 (by decide)
  .have:=f8_ ((f+1:Nat):Int) n x.2 (d-(f+1));have:(d-(f+1))*n<=5*8:=Nat.mul_le_mul (by lia) (by lia);lia
  have eL:cN_ 8 (jN_ ((f+1:Nat):Int) (d-(f+1)) n x.2) (n:Int) x.2=oS_ d (f+1) n x.2:=by unfold oS_;rw [Ai]
  have hitem:∀r∈oS_ d (f+1) n x.2,r.length<=8/\0<=(r.map (·.2.2)).sum/\(r.map (·.2.2)).sum<=(n:Int)/\∀p∈r,Lok p:=fun r hr=>by
   rw [<-eL] at hr;obtain⟨i1,i2,i3,i4⟩:=eN_ (fun q hq=>(h6_ hq).2.2.2.1) (by lia) hr;exact⟨i1,i2,i3,fun p hp=>by
    obtain⟨e1,e2,e3,e4,e5⟩:=h6_ (i4 p hp);exact⟨by lia,by lia,by lia,by lia⟩⟩
  rw [eL] at hrl;generalize oS_ d (f+1) n x.2=L at hrl hitem kk b7;have s03:=s02.trans s3;have hfo3:H3 fo=some (.lst []):=s3 _ _ hfo;have hfo4:H4 fo=some (.lst []):=s4 _ _ hfo3;obtain⟨_,rvs,e,hrl',hri⟩:=b9_ hrl;cases e;have hrl4:H4 rl=some (.lst rvs):=a7_ _ _ hrl';have rlfo:rl≠fo:=by rintro rfl;rw [hfo3] at nrl;cases nrl
  have rlen:rvs.length=L.length:=by rw [hri.length,A1]
  have hriH:Iss (hid H4 fo) (L.map lfs) rvs:=(hri.mono (gR_ (al_.refl H3) hfo3)).mono (cM_ a7_);have s04:=s03.trans s4;refine⟨rl,rfl,⟨_,SqL.of hrl4⟩,aL_ (xs:=rvs) (fun j σ H5=>(∃v6 v7 v8,σ=[some (.int d),some (.int ((f+1:Nat):Int)),some v,some (.int x.2),some (.int n),some (.ref fo),v6,v7,v8])/\al_ H H5/\But fo H4 H5/\Acc H H5 fo ((((L.take j).filter fun ls=>decide (0<=f9_ d (f+1) n x.2 ls)).map fun ls=>(x.1++ls,f9_ d (f+1) n x.2 ls)).map stD)) ⟨⟨none,none,none,rfl⟩,s04,fun _ _ e _=>e,Acc.start hfo4⟩ (fun j σ H5 _ h=>SqL.of (h.2.2.1 _ _ hrl4 rlfo)) ?_ ?_⟩
  .rintro j y σ H5 hj ⟨⟨v6,v7,v8,rfl⟩,s5,but5,vs5,hfo5,hi5⟩;obtain⟨dd,hdd,hy⟩:=hriH.of_get hj;rw [A6] at hdd;obtain⟨r,hr',rfl⟩:=A8.mp hdd;have hy5:Is H5 (lfs r) y:=hy.mono (ib_ but5);obtain⟨i1,i2,i3,i4⟩:=hitem r (AS hr');obtain⟨ya,ys,rfl,hya,hyi⟩:=b9_ hy5;have ylen:ys.length=r.length:=by rw [hyi.length,A1]
   have vl:vs5.length<=200:=by
    rw [hi5.length,A1,A1];refine Az (List.length_filter_le _ _) ?_;rw [Ad];lia
   refine⟨_,rfl,_,rfl,ya,rfl,⟨_,SqL.of hya⟩,fun acc na=> ?_⟩;refine eZ_ (xs:=ys) (own:=1) (js:=[]) (fun i H6=>al_ H5 H6/\H6 acc=some (.lst (((r.take i).map (·.2.2)).map V.int))) ⟨al_.new na,ae_⟩ (fun i H6 _ h=>SqL.of (h.1 _ _ hya)) ?_ ?_ eJ_ dr_ ?_
   .rintro i z H6 hz ⟨s6,hacc⟩;obtain⟨dd,hdd,hzi⟩:=hyi.of_get hz;rw [A6] at hdd;obtain⟨p,hp',rfl⟩:=A8.mp hdd;refine sl_ ?_;refine⟨_,rfl,_,2,_,hzi.mono s6,rfl,rfl,fun u hu=> ?_⟩;rw [c5_ hu];refine⟨acc,_,_,rfl,rfl,hacc,au_ ?_,s6.put na, ?_⟩
    .rw [A1,A1,Ad];lia
    .rw [ae_,AW,hp',AH,AH];rfl
   .rintro H6 ⟨s6,hacc⟩;rw [ylen,AT] at hacc;refine⟨acc,_,rfl,SqL.of hacc,_,_,rfl,rfl, ?_⟩;clear hacc;refine⟨_,rfl,_,rfl,ya,rfl,⟨_,SqL.of (s6 _ _ hya)⟩,fun ac2 na2=> ?_⟩;refine eZ_ (xs:=ys) (own:=1) (js:=[]) (fun i H7=>al_ H6 H7/\H7 ac2=some (.lst (((r.take i).map bC_).map V.int))) ⟨al_.new na2,ae_⟩ (fun i H7 _ h=>SqL.of (h.1 _ _ (s6 _ _ hya))) ?_ ?_ eJ_ dr_ ?_
    .rintro i z H7 hz ⟨s7,hacc⟩;obtain⟨dd,hdd,hzi⟩:=hyi.of_get hz;rw [A6] at hdd;obtain⟨p,hp',rfl⟩:=A8.mp hdd;refine sl_ ?_;refine⟨_,rfl,z,p,rfl,(hzi.mono s6).mono s7,i4 p (AS hp'),ac2,_,_,rfl,rfl,hacc,au_ ?_,s7.put na2, ?_⟩
     .rw [A1,A1,Ad];lia
     .rw [ae_,AW,hp',AH,AH];rfl
    .rintro H7 ⟨s7,hacc⟩;rw [ylen,AT] at hacc;have s57:=s6.trans s7;refine⟨ac2,_,rfl,SqL.of hacc,_,_,rfl,rfl,_,rfl,_,rfl,_,rfl,_,_,rfl,rfl,_,_,rfl,rfl, .inr ⟨by lia,by lia⟩,_,_,rfl,rfl, ?_⟩;refine⟨_,rfl,_,_,rfl,rfl,_,rfl,ee_ (fun c=> ?_) (fun c=> ?_)⟩
     .have hv7:Is H7 (lfs x.1) v:=(hv.mono s5).mono s57;refine⟨_,rfl, .inl ⟨rfl,_,SqL.of (s57 _ _ hfo5)⟩,_,rfl,_,rfl,x.1.map lf,r.map lf,hv7,hy5.mono s57,AZ (au_ (by rw [A1,A1];lia)),fun q1 H8 n8 s8 h8=>⟨_,rfl,(by show 2<=sizeLine;decide),fun t H9 nt s9 ht=> ?_⟩⟩;have s59:=s57.trans (s8.trans s9);refine⟨fo,vs5,_,rfl,rfl,s59 _ _ hfo5,au_ (by lia),⟨_,_,_,rfl⟩,(s5.trans s59).put nfH,but5.trans ((But.of_same s59).trans But.upd), ?_⟩;rw [AW,hr',CW];have ef:(Option.toList (some r)).filter (fun ls=>decide (0<=f9_ d (f+1) n x.2 ls))=[r]:=by
       have c':0<=f9_ d (f+1) n x.2 r:=c;simp [c']
      rw [ef,AH,AH];rw [<-AH] at h8;have isx:Is (nw H5 H9) (stD (x.1++r,f9_ d (f+1) n x.2 r)) (.ref t):=fs_ (by rw [cm_ ((s57.trans s8).free nt)];exact ht) (ai_ (k4_ s59 (s57.free n8) (Is.mono (s:=s9) h8)) (ai_ d1_ ao_));exact Acc.add s5 s59 hfo5 hi5 isx
     .refine⟨⟨_,_,_,rfl⟩,s5.trans s57,but5.trans (But.of_same s57), ?_⟩;rw [AW,hr',CW];have ef:(Option.toList (some r)).filter (fun ls=>decide (0<=f9_ d (f+1) n x.2 ls))=[]:=by
       have c':¬0<=f9_ d (f+1) n x.2 r:=c;simp [c']
      rw [ef,Ag];exact Acc.mono s57 ⟨vs5,hfo5,hi5⟩
    .rintro σ H R R' k ⟨v1,e1,v2,p,e2,h1,h2,h⟩;exact⟨v1,e1,v2,p,e2,h1,h2,k _ _ h⟩
   .rintro σ H R R' k ⟨v1,e1,xs,i,d,h1,e2,e3,h⟩;exact⟨v1,e1,xs,i,d,h1,e2,e3,fun u hu=>k _ _ (h u hu)⟩
  .rintro σ H5 ⟨⟨v6,v7,v8,rfl⟩,s5,_,hacc⟩;rw [rlen,AT] at hacc;exact⟨_,rfl,kk fo H5 s5 nfH (hacc.is nfH)⟩
theorem hZ_:FnOk P w K mg base CX0 11 T.f27 T.d27 ["d","k"] (rM_ K):=by
 refine T.X27.F.ok bb_ (fun vs H Q E h=> ?_) (fun cdv A outer s H vs Q E hr h=> ?_)
 .obtain⟨_,_,rfl,_⟩:=h;rfl
 .obtain⟨d,k,rfl,hW4,kk⟩:=h;have hW:=hW4.wide;refine⟨_,(ac_ (aN_ (ah_ (fS_ T) (hr.mono (by decide)) (by rfl) T.X2.m T.X2.F.kp T.X2.B .nil ar_ (aa_ (pv 0) (aa_ (pv 1) ab_))))
   (ac_ (an_ (i:=2) bb_.nd rfl (by trivial) (aw_ (aa_ (aR_ (aa_ (aw_ ab_) (aa_ (pv 1) ab_))) ab_)))
   (ac_ (aJ_ AQ rfl (cy_ (by rfl) T.n_range (aa_ ad_ (aa_ (aj_ aF_ (pv 0) ad_) ab_))) (am_ (i:=3) bb_.nd rfl (by trivial)) (ac_ (an_ (i:=4) bb_.nd rfl (by trivial) (aw_ ab_))
   (ac_ (aJ_ AQ rfl (aQ_ (pv 2)) (bM_ rfl (aq_ (am_ (i:=5) bb_.nd rfl (by trivial)) (aq_ (am_ (i:=6) bb_.nd rfl (by trivial)) a5_))) (af_ (aN_ (dF_ Ab C5 C4 cF_ (pv 4) (aa_ (ah_ (fR_ T) (hr.mono (by decide)) (by rfl) T.X26.m T.X26.F.kp T.X26.B .nil ar_ (aa_ (pv 0) (aa_ (pv 3) (aa_ (pv 5) (aa_ (pv 6) ab_))))) ab_)))))
   (af_ (an_ (i:=2) bb_.nd rfl (by trivial) (pv 4))))))
   (af_ (ap_ (aE_ (hl_ hr) (by rfl) T.n_sorted boot_sorted (aa_ (cK_ (XN:=["d","k","begun","floor","longer","drawing","spare"]) (sc:=ag_ cJ_) (N:=["drawing","spare"]) (own:=2) (js:=[]) rfl (by ac_nf) rfl rfl (aQ_ (pv 2)) (fun _ _ _ _=>(hT_ (K:=K) rfl rfl (aq_ (am_ (i:=0) (show List.Nodup (["drawing","spare"]:List Str) by ac_nf) rfl (Or.inl rfl) (.inr rfl)) (aq_ (am_ (i:=1) (show List.Nodup (["drawing","spare"]:List Str) by ac_nf) rfl (Or.inl rfl) (.inr rfl)) a5_)))) eA_ (fun _ _ _ _=>(mx_ (av_ cf_ (pv 1) ad_ (az_ _)))) (fun _ _ _ _=>(pv 0))) ab_))))))), ?_⟩
  refine⟨_,rfl,_,rfl,d,k,rfl,hW, ?_⟩;obtain⟨g1,_,g3⟩:=nY_ hW4;obtain⟨gA,gB⟩:=oK_ g1;have d15:1<=d/\d<=5:=by unfold Wide at hW;lia
  refine⟨AK _,fun e0 H1 ne0 s1 he0=>⟨_,rfl,(by show 2<=sizeLine;decide),fun t0 H2 nt0 s2 ht0=>⟨(by show 1<=sizeLine;decide),fun bg H3 nb s3 hbg=> ?_⟩⟩⟩;have s03:=(s1.trans s2).trans s3;have nbH:H bg=none:=(s1.trans s2).free nb;have is0:Is (nw H H3) (.l ((fc_ d k 0).map stD)) (.ref bg):=co_ (by rw [cm_ nbH];exact hbg) (ai_ (fs_ (by rw [cm_ (s1.free nt0)];exact s3 _ _ ht0) (ai_ (co_ (vs:=[]) (by rw [cm_ ne0];exact s3 _ _ (s2 _ _ he0)) ao_) (ai_ d1_ ao_))) ao_);refine⟨_,rfl,_,_,rfl,rfl,_,_,rfl,⟨by decide,by decide,by lia,by lia⟩, ?_⟩;rw [show((d:Int)+1-1).toNat=d by lia];refine bt_ (lo:=1) (n:=d) (fun f σ H4=>∃bg,(∃v3 v4 v5 v6,σ=[some (.int d),some (.int k),some (.ref bg),v3,v4,v5,v6])/\al_ H H4/\Is (nw H H4) (.l ((fc_ d k f).map stD)) (.ref bg)) ⟨bg,⟨none,none,none,none,rfl⟩,s03,is0⟩ ?_ ?_
  .clear is0 s03 nbH hbg;rintro f σ H4 hf ⟨bg,⟨v3,v4,v5,v6,rfl⟩,s4,hbg⟩;obtain⟨hst,hlen⟩:=gA f hf;refine⟨AK _,fun lo H5 nlo s5 hlo=> ?_⟩;have hbg4:=hbg.mono a7_;obtain⟨_,bvs,e,hb4,hbi⟩:=b9_ hbg4;cases e;have blen:bvs.length=(fc_ d k f).length:=by rw [hbi.length,A1]
   refine⟨_,rfl,bg,rfl,⟨_,SqL.of (s5 _ _ hb4)⟩,aL_ (xs:=bvs) (fun j σ H6=>(∃v5 v6,σ=[some (.int d),some (.int k),some (.ref bg),some (.int (1+(f:Int))),some (.ref lo),v5,v6])/\al_ H4 H6/\Acc H4 H6 lo ((((fc_ d k f).take j).flatMap fun x=>ej_ d (f+1) x.1 x.2).map stD)) ⟨⟨_,_,rfl⟩,s5,Acc.start hlo⟩ (fun j σ H6 _ h=>SqL.of (h.2.1 _ _ hb4)) ?_ ?_⟩
   .rintro j y σ H6 hj ⟨⟨v5,v6,rfl⟩,s6,vs6,hlo6,hi6⟩;obtain⟨dd,hdd,hy⟩:=hbi.of_get hj;rw [A6] at hdd;obtain⟨x,hx',rfl⟩:=A8.mp hdd;obtain⟨t,u,rfl,ht,hu⟩:=qf_ (hy.mono s6);have e1:(1+(f:Int))=((f+1:Nat):Int):=by lia
    have tk:(((fc_ d k f).take (j+1)).flatMap fun x=>ej_ d (f+1) x.1 x.2)=(((fc_ d k f).take j).flatMap fun x=>ej_ d (f+1) x.1 x.2)++ej_ d (f+1) x.1 x.2:=by
     rw [AW,hx',B5];simp
    have vl:vs6.length+(ej_ d (f+1) x.1 x.2).length<=900:=by
     rw [hi6.length,A1];have hjl:j<(fc_ d k f).length:=(AD.mp hx').1;have:(((fc_ d k f).take (j+1)).flatMap fun x=>ej_ d (f+1) x.1 x.2).length<=(fc_ d k (f+1)).length:=by
      show _<=((fc_ d k f).flatMap fun x=>ej_ d (f+1) x.1 x.2).length
      conv=>rhs;rw [<-List.take_append_drop (j+1) (fc_ d k f)]
      rw [B5,AB];lia
     rw [tk,AB] at this;lia
    refine⟨t,_,rfl,SqT.of ht,rfl,_,_,rfl,_,_,rfl,rfl, ?_⟩;refine⟨_,rfl, .inl ⟨rfl,_,SqL.of hlo6⟩,_,rfl,_,rfl,_,rfl,_,rfl,d,f,u,x,by rw [e1];rfl,hf,d15.2,hu,hst x (AS hx'),fun wl H7 s7 nwl hwl=> ?_⟩;obtain⟨_,us,e,hwl',hwi⟩:=b9_ hwl;cases e;have ul:us.length=(ej_ d (f+1) x.1 x.2).length:=by rw [hwi.length,A1]
    refine⟨lo,wl,vs6,us,rfl,rfl,s7 _ _ hlo6,a7_ _ _ hwl',AZ (au_ (by lia)),⟨_,_,rfl⟩,(s6.trans s7).put nlo, ?_⟩;rw [tk,AH];exact Acc.adds s6 s7 hlo6 hi6 hwi
   .rintro σ H6 ⟨⟨v5,v6,rfl⟩,s6,hacc⟩;rw [blen,AT] at hacc;exact⟨_,rfl,lo,⟨_,_,_,_,rfl⟩,s4.trans s6,(hacc.is nlo).mono (fW_ s4)⟩
  .clear is0 s03 nbH hbg;rintro σ H4 ⟨bg,⟨v3,v4,v5,v6,rfl⟩,s4,hbg⟩;obtain⟨_,bvs,e,hb4,hbi⟩:=b9_ hbg;cases e;have hb4':=a7_ _ _ hb4;have blen:bvs.length=(fc_ d k d).length:=by rw [hbi.length,A1]
   refine⟨_,rfl,bg,rfl,⟨_,SqL.of hb4'⟩,fun acc na=> ?_⟩;refine eZ_ (xs:=bvs) (own:=2) (js:=[]) (fun j H5=>al_ H4 H5/\∃vs,H5 acc=some (.lst vs)/\Iss (nw H H4) (((((fc_ d k d).take j).filter fun x=>decide (x.2=0)).map (·.1)).map lfs) vs) ⟨al_.new na,[],ae_,ao_⟩ (fun j H5 _ h=>SqL.of (h.1 _ _ hb4')) ?_ ?_ eI_ ?_ ?_
   .rintro j y H5 hj ⟨s5,vs,hacc,hi⟩;obtain⟨dd,hdd,hy⟩:=hbi.of_get hj;rw [A6] at hdd;obtain⟨x,hx',rfl⟩:=A8.mp hdd;obtain⟨t,u,rfl,ht,hu⟩:=qf_ hy;have vl:vs.length<=900:=by
     rw [hi.length,A1,A1];refine Az (List.length_filter_le _ _) ?_;rw [Ad];obtain⟨d',rfl⟩:∃d',d=d'+1:=⟨d-1,by lia⟩;have:=(gA d' (by lia)).2;lia
    refine⟨t,_,rfl,SqT.of (s5 _ _ (a7_ _ _ ht)),rfl,_,_,rfl,_,_,rfl,rfl, ?_⟩;refine⟨_,rfl,rfl,_,rfl,gw_ (fun c=> ?_) (fun c=> ?_)⟩
    .refine⟨_,rfl,acc,vs,_,rfl,rfl,hacc,au_ (by lia),s5.put na,_,ae_, ?_⟩;rw [AW,hx',CW];have ef:(Option.toList (some x)).filter (fun x=>decide (x.2=0))=[x]:=by simp [c]
     rw [ef,AH,AH];exact hi.append (ai_ hu ao_)
    .refine⟨s5,vs,hacc, ?_⟩;rw [AW,hx',CW];have ef:(Option.toList (some x)).filter (fun x=>decide (x.2=0))=[]:=by simp [c]
     rw [ef,Ag];exact hi
   .rintro H5 ⟨s5,vs,hacc,hi⟩;rw [blen,AT] at hi;have hi:Iss (nw H H4) ((jD_ d k).map lfs) vs:=hi;have s05:=s4.trans s5;have hv5:Iss H5 ((jD_ d k).map lfs) vs:=(hi.mono a7_).mono s5;have vlen:vs.length=(jD_ d k).length:=by rw [hi.length,A1]
    refine⟨acc,vs,rfl,SqL.of hacc,by lia,fun r hr'=> ?_,fun x hx y hy=> ?_,fun p q pp nq=> ?_⟩
    .obtain⟨i,hi,rfl⟩:=BW.mp hr';obtain⟨dd,hdd,hy⟩:=hv5.of_get (A3 hi);rw [A6] at hdd;obtain⟨w,_,rfl⟩:=A8.mp hdd;obtain⟨a,ys,e1,e2,_⟩:=b9_ hy;exact⟨a,ys,e1,SqL.of e2⟩
    .obtain⟨i,hi,rfl⟩:=BW.mp hx;obtain⟨j,hj,rfl⟩:=BW.mp hy;obtain⟨dd,hdd,hx'⟩:=hv5.of_get (A3 hi);rw [A6] at hdd;obtain⟨w1,_,rfl⟩:=A8.mp hdd;obtain⟨ee,hee,hy'⟩:=hv5.of_get (A3 hj);rw [A6] at hee;obtain⟨w2,_,rfl⟩:=A8.mp hee;exact⟨_,pe_ hx' hy'⟩
    .have hpl:∀i∈p,i<(jD_ d k).length:=fun i hi=>by
      have:=Af.mp (pp.mem_iff.mp hi);lia
     refine kk (p.map fun i=>(jD_ d k).getD i []) q _ ?_ (s05.put (s05.free nq)) (s05.free nq) ?_
     .have:=pp.map fun i=>(jD_ d k).getD i [];have er:(List.range vs.length).map (fun i=>(jD_ d k).getD i [])=jD_ d k:=by
       rw [vlen];refine List.ext_getElem (by simp) fun i h1 h2=> ?_;simp [List.getD,h2]
      rw [er] at this;exact this
     .exact co_ (by rw [cm_ (s05.free nq)];exact ae_) ((i3_ hi p hpl).mono (dJ_ (s5.trans (al_.new nq))))
   .rintro σ H R R' k' ⟨v1,e1,e2,b,e3,h⟩;exact⟨v1,e1,e2,b,e3,k' _ _ h⟩
   .rintro σ H R R' k' ⟨v1,e1,h⟩;exact⟨v1,e1,k' _ _ h⟩
theorem eE_:FnOk P w K mg base CX0 1 T.f4 T.d4 ["number","chosen"] (rQ_ K):=by
 refine T.X4.F.ok dg_ (fun vs H Q E h=> ?_) (fun cdv A outer s H vs Q E hr h=> ?_)
 .obtain⟨_,_,rfl,_⟩:=h;rfl
 .obtain⟨n,k,rfl,h1,h2,kk⟩:=h;refine⟨_,(ac_ (a2_ (fN_ (av_ hV_ (pv 1) ad_ (az_ _)) (dT_ (av_ jG_ (pv 1) (pv 0) (az_ _)))).pt (af_ (ap_ ad_)) ax_)
   (ac_ (an_ (i:=2) dg_.nd rfl (by trivial) ad_)
   (ac_ (aJ_ AQ rfl (dk_ (by rfl) T.n_range (aa_ (pv 1) ab_)) (am_ (i:=3) dg_.nd rfl (by trivial)) (af_ (an_ (i:=2) dg_.nd rfl (by trivial) (aj_ k0_ (aj_ bl_ (pv 2) (aj_ aD_ (pv 0) (pv 3))) (aj_ aF_ (pv 3) ad_)))))
   (af_ (ap_ (pv 2)))))), ?_⟩
  refine⟨_,rfl,_,_,rfl,rfl,_,rfl,ee_ (fun h=>absurd h (by lia)) (fun _=> ?_)⟩;refine⟨_,rfl,_,rfl,_,_,rfl,rfl,_,rfl,ee_ (fun h=>absurd h (by lia)) (fun _=> ?_)⟩;refine⟨_,rfl,(k:Int),rfl,by lia,by lia,bt_ (lo:=0) (n:=(k:Int).toNat) (fun i σ H2=>(∃v3,σ=[some (.int n),some (.int k),some (.int (chF n i)),v3])/\H2=H) ⟨⟨none,rfl⟩,rfl⟩ ?_ ?_⟩
  .rintro i σ H2 hi ⟨⟨v3,rfl⟩,rfl⟩;refine⟨_,rfl,_,rfl,_,rfl,_,_,rfl,rfl,_,_,rfl,rfl, .inr ⟨by lia,by lia⟩,_,rfl,_,_,rfl,rfl,_,_,rfl,rfl,⟨by lia,by lia⟩,⟨some (.int (0+(i:Int))), ?_⟩,rfl⟩;rw [show chF n (i+1)=chF n i*(n-(0+(i:Int)))/((0+(i:Int))+1) by rw [Int.zero_add];rfl];rfl
  .rintro σ H2 ⟨⟨v3,rfl⟩,rfl⟩;rw [Ai];exact⟨_,rfl,kk⟩
theorem a6_:FnOk P w K mg base CX0 1 T.f9 T.d9 ["numbers","place","more"] (sL_ K):=by
 refine T.X9.F.ok gF_ (fun vs H Q E h=> ?_) (fun cdv A outer s H vs Q E hr h=> ?_)
 .obtain⟨_,_,_,_,rfl,_⟩:=h;rfl
 .obtain⟨v,t,p,m,rfl,hv,hp,hl,kk⟩:=h;refine⟨_,(af_ (ap_ (aj_ hW_ (aj_ hW_ (bo_ ks_ (pv 0) ce_ (bL_ (pv 1))) (aR_ (aa_ (aj_ aF_ (a4_ aO_ (pv 0) (pv 1) (fun _ _=>rfl)) (pv 2)) ab_))) (bo_ ks_ (pv 0) (bL_ (aj_ aF_ (pv 1) ad_)) ce_)))), ?_⟩;have hlen:∀vs:List V,vs.length=(t.map D.i).length->vs.length=t.length:=fun vs e=>by rw [e,A1]
  refine⟨_,rfl,_,rfl,(p:Int),rfl,t.map .i,(t.take p).map .i,hv,pB_,fun vs e h=> ?_,fun u1 H1 s1 hu1=> ?_⟩
  .have e:=hlen vs e;rw [HT.sIx_nat] at h;lia
  refine⟨_,rfl,_,rfl,t.map .i,(p:Int), .i (t.getD p 0),hv.mono s1,rfl, ?_,fun u hu=> ?_⟩
  .refine qy_ (j:=p) rfl ?_;rw [A6,A3 hp];simp [List.getD,hp]
  rw [c5_ hu];refine⟨_,rfl,_,_,rfl,rfl,(by show 1<=sizeLine;decide),fun q2 H2 n2 s2 h2=> ?_⟩;have hu2:Is H2 (.t [.i (t.getD p 0+m)]) (.ref q2):=fs_ h2 (ai_ d1_ ao_);refine⟨_,_,hu1.mono s2,hu2,AZ (au_ (by rw [A1,Ad];show _+1<=1000;lia)),fun u3 H3 s3 hu3=> ?_⟩;refine⟨_,rfl,_,rfl,_,_,rfl,rfl,(p:Int)+1,rfl,t.map .i,(t.drop (p+1)).map .i,((hv.mono s1).mono s2).mono s3, ?_,fun vs e h=> ?_,fun u4 H4 s4 hu4=> ?_⟩
  .rw [show((p:Int)+1)=((p+1:Nat):Int) by lia];exact n7_ (by lia)
  .have e:=hlen vs e;rw [show((p:Int)+1)=((p+1:Nat):Int) by lia,HT.sIx_nat] at h;lia
  refine⟨_,_,hu3.mono s4,hu4,AZ (au_ (by rw [AB,A1,A1,Ad,Cp];show _+1+_<=1000;lia)),fun u5 H5 s5 hu5=> ?_⟩;refine kk u5 H5 ((((s1.trans s2).trans s3).trans s4).trans s5) ?_;have e:(t.take p).map D.i++[D.i (t.getD p 0+m)]++(t.drop (p+1)).map D.i=(wmF t p m).map D.i:=by
   unfold wmF;rw [<-oo_ hp,AH,AH];rfl
  rw [e] at hu5;exact hu5
theorem cT_:∀n:Nat,FnOk P w K mg base CX0 (n+2) T.f29 T.d29 ["numbers","first","last","alike"] (sM_ n K)
 |0=>⟨fun vs H Q E h=>(by obtain⟨_,_,_,_,_,_,_,h,_⟩:=h;exact absurd h (CT _)),fun A outer s H args us vs Q E _ _ _ _ h=>(by obtain⟨_,_,_,_,_,_,_,h,_⟩:=h;exact absurd h (CT _))⟩
 |n+1=>by
  have ih:=cT_ n;refine T.X29.F.ok a1_ (fun vs H Q E h=> ?_) (fun cdv A outer s H vs Q E hr h=> ?_)
  .obtain⟨_,_,_,_,_,rfl,_⟩:=h;rfl
  .obtain⟨v,t,p,g,a,rfl,hv,hg,hn,hp,⟨kl,kn,ks⟩,kk⟩:=h;refine⟨_,(ac_ (a2_ (av_ cf_ (pv 1) (pv 2) (az_ _)) (af_ (ap_ (aw_ (aa_ (aR_ (aa_ (ah_ (a6_ T) (hr.mono (by lia)) (by rfl) T.X9.m T.X9.F.kp T.X9.B .nil ar_ (aa_ (pv 0) (aa_ (pv 1) (aa_ (pv 3) ab_)))) (aa_ (ah_ (eE_ T) (hr.mono (by lia)) (by rfl) T.X4.m T.X4.F.kp T.X4.B .nil ar_ (aa_ (aj_ aF_ (a4_ aO_ (pv 0) (pv 1) (fun _ _=>rfl)) (pv 3)) (aa_ (pv 3) ab_))) ab_))) ab_)))) ax_)
   (ac_ (an_ (i:=4) a1_.nd rfl (by trivial) (aw_ ab_))
   (ac_ (aJ_ AQ rfl (dk_ (by rfl) T.n_range (aa_ (aj_ aF_ (pv 3) ad_) ab_)) (am_ (i:=5) a1_.nd rfl (by trivial)) (ac_ (an_ (i:=6) a1_.nd rfl (by trivial) (ah_ (eE_ T) (hr.mono (by lia)) (by rfl) T.X4.m T.X4.F.kp T.X4.B .nil ar_ (aa_ (aj_ aF_ (a4_ aO_ (pv 0) (pv 1) (fun _ _=>rfl)) (pv 5)) (aa_ (pv 5) ab_))))
   (af_ (aJ_ AQ rfl (aQ_ (ah_ ih hr (by rfl) T.X29.m T.X29.F.kp T.X29.B .nil ar_ (aa_ (ah_ (a6_ T) (hr.mono (by lia)) (by rfl) T.X9.m T.X9.F.kp T.X9.B .nil ar_ (aa_ (pv 0) (aa_ (pv 1) (aa_ (pv 5) ab_)))) (aa_ (aj_ aF_ (pv 1) ad_) (aa_ (pv 2) (aa_ (aj_ aD_ (pv 3) (pv 5)) ab_)))))) (bM_ rfl (aq_ (am_ (i:=7) a1_.nd rfl (by trivial)) (aq_ (am_ (i:=8) a1_.nd rfl (by trivial)) a5_))) (af_ (aN_ (dF_ Ab BO BN bs_ (pv 4) (aa_ (aR_ (aa_ (pv 7) (aa_ (aj_ bl_ (pv 6) (pv 8)) ab_))) ab_))))))))
   (af_ (ap_ (pv 4)))))), ?_⟩
   have kp:=(fq_ kn).2 p;have kp0:=kn p;have at_p:∀{H':Hp},al_ H H'->∀{v':V},Is H' (tI t) v'->atI (t.map D.i) (p:Int)=some (.i (t.getD p 0)):=fun _ _ _=>by
    refine qy_ (j:=p) rfl ?_;rw [A6,A3 (by lia)];simp [List.getD,show p<t.length by lia]
   refine⟨_,rfl,_,rfl,rfl,_,rfl,gw_ (fun e=> ?_) (fun e=> ?_)⟩
   .have hg0:g=0:=by lia
    subst hg0;refine⟨_,rfl,_,rfl,_,rfl,v,t,p,a,rfl,hv,by lia,kl,fun u1 H1 s1 hu1=> ?_⟩;refine⟨_,rfl,_,rfl,t.map .i,(p:Int),_,hv.mono s1,rfl,at_p s1 (hv.mono s1),fun u hu=> ?_⟩;rw [c5_ hu];refine⟨_,rfl,_,_,rfl,rfl,_,rfl,t.getD p 0+a,a,rfl,by lia,by lia, ?_⟩;refine⟨(by show 2<=sizeLine;decide),fun q2 H2 n2 s2 h2=>⟨(by show 1<=sizeLine;decide),fun q3 H3 n3 s3 h3=> ?_⟩⟩;have s02:=s1.trans s2;refine kk q3 H3 (s02.trans s3) (s02.free n3) (co_ h3 (ai_ ((oZ_ (x:=(wmF t p (a:Int),chF (t.getD p 0+(a:Int)) a)) h2 (hu1.mono s2)).mono s3) ao_))
   .obtain⟨g,rfl⟩:∃g',g=g'+1:=⟨g-1,by lia⟩;refine⟨AK _,fun fo H1 nf s1 hfo=> ?_⟩;have big:=mG_ (g:=g+1) (t:=t) (p:=p) (a:=a) (by lia) (by have:=(fq_ kn).1;lia);have a15:(a:Int)<=15:=by have:=(fq_ kn).1;lia
    refine⟨_,rfl,_,_,rfl,rfl,_,rfl,by lia,by lia, ?_⟩;rw [show((a:Int)+1).toNat=a+1 by lia];refine bt_ (lo:=0) (n:=a+1) (fun h σ H2=>(∃v5 v6 v7 v8,σ=[some v,some (.int p),some (.int ((p:Int)+((g+1:Nat):Int))),some (.int a),some (.ref fo),v5,v6,v7,v8])/\al_ H H2/\∃vs,H2 fo=some (.lst vs)/\Iss H2 (((List.range h).flatMap fun h:Nat=>(pbF g (wmF t p (h:Int)) (p+1) (a-h)).map fun x=>(x.1,chF (t.getD p 0+(h:Int)) h*x.2)).map prD) vs) ⟨⟨none,none,none,none,rfl⟩,s1,[],hfo,ao_⟩ ?_ ?_
    .rintro h σ H2 hh ⟨⟨v5,v6,v7,v8,rfl⟩,s2,vs2,hf2,hi2⟩;rw [Int.zero_add];have hb:∀j,j<=(pbF g (wmF t p (h:Int)) (p+1) (a-h)).length->((List.range h).flatMap fun h:Nat=>(pbF g (wmF t p (h:Int)) (p+1) (a-h)).map fun x=>(x.1,chF (t.getD p 0+(h:Int)) h*x.2)).length+j<=1048576:=fun j hj=>by
      have:=eu_ (fun h:Nat=>(pbF g (wmF t p (h:Int)) (p+1) (a-h)).map fun x=>(x.1,chF (t.getD p 0+(h:Int)) h*x.2)) hh;rw [A1] at this;unfold pbF at big;lia
     rw [bu_];generalize ((List.range h).flatMap fun h:Nat=>(pbF g (wmF t p (h:Int)) (p+1) (a-h)).map fun x=>(x.1,chF (t.getD p 0+(h:Int)) h*x.2))=pr at hi2 hb⊢;obtain⟨c1,c2⟩:=qO_ (n:=t.getD p 0+(h:Int)) (k:=h) (by lia) (by lia);refine⟨_,rfl,_,rfl,t.map .i,(p:Int),_,hv.mono s2,rfl,at_p s2 (hv.mono s2),fun u hu=> ?_⟩;rw [c5_ hu];refine⟨_,rfl,_,_,rfl,rfl,_,rfl,t.getD p 0+(h:Int),h,rfl,by lia,by lia, ?_⟩;refine⟨_,rfl,_,rfl,_,rfl,v,t,p,(h:Int),rfl,hv.mono s2,by lia,kl,fun u3 H3 s3 hu3=> ?_⟩;refine⟨_,rfl,_,_,rfl,rfl,_,rfl,_,rfl,_,rfl,_,_,rfl,rfl,u3,wmF t p (h:Int),p+1,g,a-h, ?_,hu3,by lia,by lia,by rw [bx_];lia,⟨by rw [bx_];exact kl,fun i=> ?_, ?_⟩,fun rl H4 s4 nrl hrl=> ?_⟩
     .have e1:((p:Int)+1)=((p+1:Nat):Int):=by lia
      have e2:(p:Int)+((g+1:Nat):Int)=((p+1:Nat):Int)+(g:Int):=by lia
      have e3:(a:Int)-(h:Int)=((a-h:Nat):Int):=by lia
      show [u3,V.int ((p:Int)+1),V.int ((p:Int)+((g+1:Nat):Int)),V.int ((a:Int)-(h:Int))]=_;rw [e1,e2,e3]
     .rw [me_ (by lia)];have:=kn i;split<;>lia
     .rw [fF_ (by lia)];lia
     obtain⟨_,rvs,e,hrl4,hri⟩:=b9_ hrl;cases e;generalize pbF g (wmF t p (h:Int)) (p+1) (a-h)=O at hri hb⊢;have rlen:rvs.length=O.length:=by rw [hri.length,A1]
     have s24:=s3.trans s4;have hf4:=s24 _ _ hf2;have rlfo:rl≠fo:=by rintro rfl;rw [s3 _ _ hf2] at nrl;cases nrl
     refine⟨rl,rfl,⟨_,SqL.of hrl4⟩,aL_ (xs:=rvs) (fun j σ H5=>(∃v7 v8,σ=[some v,some (.int p),some (.int ((p:Int)+((g+1:Nat):Int))),some (.int a),some (.ref fo),some (.int h),some (.int (chF (t.getD p 0+(h:Int)) h)),v7,v8])/\al_ H H5/\H5 rl=some (.lst rvs)/\bD_ H4 H5/\∃vs,H5 fo=some (.lst vs)/\Iss H5 ((pr++(O.take j).map fun x=>(x.1,chF (t.getD p 0+(h:Int)) h*x.2)).map prD) vs) ⟨⟨_,_,rfl⟩,s2.trans s24,hrl4,bD_.of_same (al_.refl H4),vs2,hf4,by simpa using hi2.mono s24⟩ (fun j σ H5 _ h=>SqL.of h.2.2.1) ?_ ?_⟩
     .rintro j y σ H5 hj ⟨⟨v7,v8,rfl⟩,s5,hrl5,t5,vs5,hf5,hi5⟩;obtain⟨dd,hdd,hy⟩:=hri.of_get hj;rw [A6] at hdd;obtain⟨x,hx',rfl⟩:=A8.mp hdd;have hjl:j<O.length:=(AD.mp hx').1;obtain⟨q,u6,rfl,hq,hu6⟩:=oL_ (iI_ t5 hy);have vl:=hi5.length;rw [A1,AB,A1,Ad] at vl;have hbj:=hb (j+1) (by lia);refine⟨q,_,rfl,SqT.of hq,rfl,_,_,rfl,_,_,rfl,rfl, ?_⟩;refine⟨_,rfl, .inl ⟨rfl,_,SqL.of hf5⟩,_,rfl,_,rfl,_,rfl,_,_,rfl,rfl, .inl ⟨by lia,by lia⟩,(by show 2<=sizeLine;decide),fun q6 H6 n6 s6 h6=> ?_⟩;refine⟨fo,vs5,_,rfl,rfl,s6 _ _ hf5,jM_ (by lia),⟨_,_,rfl⟩,(s5.trans s6).put nf,by rw [ak_ rlfo];exact s6 _ _ hrl5,(t5.trans (bD_.of_same s6)).trans (bD_.upd (s6 _ _ hf5)),_,ae_, ?_⟩;have ez:(pr++(O.take (j+1)).map fun x=>(x.1,chF (t.getD p 0+(h:Int)) h*x.2))=(pr++(O.take j).map fun x=>(x.1,chF (t.getD p 0+(h:Int)) h*x.2))++[(x.1,chF (t.getD p 0+(h:Int)) h*x.2)]:=by
       rw [AW,hx',Option.toList_some,AH,B2];rfl
      rw [ez,AH];refine(kL_ ((bD_.of_same s6).trans (bD_.upd (s6 _ _ hf5))) hi5).append ?_;exact ai_ (iI_ (bD_.upd (s6 _ _ hf5)) (oZ_ (x:=(x.1,chF (t.getD p 0+(h:Int)) h*x.2)) h6 (hu6.mono s6))) ao_
     .rintro σ H5 ⟨⟨v7,v8,rfl⟩,s5,hrl5,t5,vs5,hf5,hi5⟩;rw [rlen,AT] at hi5;exact⟨⟨_,_,_,_,rfl⟩,s5,vs5,hf5,hi5⟩
    .rintro σ H2 ⟨⟨v5,v6,v7,v8,rfl⟩,s2,vs2,hf2,hi2⟩;exact⟨_,rfl,kk fo H2 s2 nf (co_ hf2 hi2)⟩
theorem dp_:FnOk P w K mg base CX0 9 T.f30 T.d30 ["d","marks"] (rK_ K):=by
 refine T.X30.F.ok ay_ (fun vs H Q E h=> ?_) (fun cdv A outer s H vs Q E hr h=> ?_)
 .obtain⟨_,_,_,rfl,_⟩:=h;rfl
 .obtain⟨d,v,mk,rfl,d1,d5,hv,⟨mok,mlen⟩,kk⟩:=h;refine⟨_,(ac_ (an_ (i:=2) ay_.nd rfl (by trivial) (mB_ (mX_ hr) (cz_ b1_ (by rfl) T.n_tuple boot_tuple (aa_ (aj_ c4_ (aw_ (aa_ ad_ ab_)) (pv 0)) ab_)) ad_))
   (ac_ (aJ_ AQ rfl (aQ_ (oB_ (qD_ hr) hr.hd (by rfl) T.n_sorted (by rfl) T.n_set (aa_ (pv 1) ab_))) (am_ (i:=3) ay_.nd rfl (by trivial)) (ac_ (an_ (i:=4) ay_.nd rfl (by trivial) mz_)
   (ac_ (aJ_ AQ rfl (oz_ (pv 2)) (am_ (i:=5) ay_.nd rfl (by trivial)) (af_ (aJ_ AQ rfl (aQ_ (ah_ (cT_ T 6) (hr.mono (by decide)) (by rfl) T.X29.m T.X29.F.kp T.X29.B .nil ar_ (aa_ (pv 5) (aa_ (aj_ aD_ (a4_ aO_ (pv 3) ad_ (fun _ _=>rfl)) ad_) (aa_ (aj_ aD_ (a4_ aO_ (pv 3) ad_ (fun _ _=>rfl)) ad_) (aa_ (dF_ Ab PySem.F.slot_list_count PySem.F.type_list_count (k5_ hr) (pv 1) (aa_ (pv 3) ab_)) ab_)))))) (bM_ rfl (aq_ (am_ (i:=6) ay_.nd rfl (by trivial)) (aq_ (am_ (i:=7) ay_.nd rfl (by trivial)) a5_))) (af_ (ow_ (mX_ hr) (pv 4) (pv 6) (aj_ aF_ (mD_ (mX_ hr) (pv 4) (pv 6) ad_ ⟨rfl,rfl,rfl,rfl⟩) (aj_ bl_ (oG_ (mX_ hr) (pv 2) (pv 5) (fun _ _=>rfl)) (pv 7))) rfl)))))
   (af_ (an_ (i:=2) ay_.nd rfl (by trivial) (pv 4))))))
   (af_ (ap_ (oA_ rfl (by rfl) T.n_sum (pv 2)))))), ?_⟩
  obtain⟨wa,wvs,rfl,hwa,hwi⟩:=b9_ hv;have wlen:wvs.length=mk.length:=by rw [hwi.length,A1]
  refine fun kd nkd=> ?_;have s0:al_ H (upd H kd (.dT [])):=al_.new nkd;have hkd0:upd H kd (.dT []) kd=some (.dT []):=ae_;generalize upd H kd (.dT [])=H0 at s0 hkd0⊢;refine⟨(by show 1<=sizeLine;decide),fun l1 H1 n1 s1 h1=> ?_⟩;refine⟨_,rfl, .i 0,d,co_ h1 (ai_ d1_ ao_),rfl,by lia,by lia,AZ (au_ (by lia)),fun l2 H2 n2 s2 h2=> ?_⟩;refine⟨.ref l2,_,rfl,h2,fun t3 H3 n3 s3 h3=> ?_⟩;have s03:=(s1.trans s2).trans s3;have hkd3:=s03 _ _ hkd0;rw [Ai] at h3;have ht3:H3 t3=some (.tup ((eQ_ (List.replicate d 0)).map kV)):=by
   rw [<-CC] at h3;obtain⟨a,e,ha⟩:=cg_ (xs:=List.replicate d 0) h3;cases e;rw [gd_];exact ha
  refine⟨hkd3,eQ_ (List.replicate d 0),t3,rfl,ht3, ?_⟩;have e0:eb_ ([]:List (List Key×V)) (eQ_ (List.replicate d 0)) (.int 1)=dd_ [(List.replicate d 0,1)]:=iv_ [] _ _;rw [e0];have sH:al_ H (upd H3 kd (.dT (dd_ [(List.replicate d 0,1)]))):=(s0.trans s03).put nkd;have hkd:upd H3 kd (.dT (dd_ [(List.replicate d 0,1)])) kd=some (.dT (dd_ [(List.replicate d 0,1)])):=ae_;generalize upd H3 kd (.dT (dd_ [(List.replicate d 0,1)]))=H4 at sH hkd⊢;clear h1 h2 h3 ht3 hkd3 s03 s1 s2 s3 n1 n2 n3 hkd0 s0 e0 H0 H1 H2 H3;have tab0:TabOk d 0 [(List.replicate d 0,(1:Int))]:=by
   refine⟨by simp,fun x hx=> ?_⟩;rw [Aq.mp hx];refine⟨by simp,by simp,fun i=> ?_⟩;rw [A5,Ca];split<;>simp
  refine⟨_,rfl, .ref wa,mk.map gu_,3,rfl,by rw [<-iQ_];exact hv.mono sH,by decide,ms_,by rw [A1];lia,fun yss l0 H5 nd mem so nl0 s5 hq=> ?_⟩;have ey:=oj_ nd mem so;subst ey;rw [<-iQ_] at hq;clear nd mem so;have hhm:d8_ [(List.replicate d 0,(1:Int))] (TF (fun m=>mk.count m) (jw_ mk))=hmF d mk:=by
   simp [d8_,hmF]
  have hS:∀m∈jw_ mk,m∈mk:=fun m hm=>fG_.mp hm;have hSn:=oi_ mk;generalize hcn:(fun m=>mk.count m)=cnt at hhm;generalize hmF d mk=tot at hhm kk;generalize jw_ mk=S at hq hhm hS hSn;obtain⟨_,lvs,e,hl0,hli⟩:=b9_ hq;cases e;have llen:lvs.length=S.length:=by rw [hli.length,A1]
  refine⟨l0,rfl,⟨_,SqL.of hl0⟩,aL_ (xs:=lvs) (fun i σ H6=>(∃kd D n,(∃v3 v4 v5 v6 v7,σ=[some (.int d),some (.ref wa),some (.ref kd),v3,v4,v5,v6,v7])/\H6 kd=some (.dT (dd_ D))/\TabOk d n D/\n=((S.take i).map cnt).sum/\d8_ D (TF cnt (S.drop i))=tot/\H kd=none)/\al_ H H6/\H6 l0=some (.lst lvs)/\bD_ H5 H6) ⟨⟨kd,_,0,⟨none,none,none,none,none,rfl⟩,s5 _ _ hkd,tab0,rfl,hhm,nkd⟩,sH.trans s5,hl0,bD_.of_same (al_.refl H5)⟩ (fun i σ H6 _ h=>SqL.of h.2.2.1) ?_ ?_⟩
  .rintro i y σ H6 hi ⟨⟨kd,D,n,⟨v3,v4,v5,v6,v7,rfl⟩,hkd6,tab,hn,hsum,nkd⟩,s6,hl6,t6⟩;obtain⟨dd,hdd,hy⟩:=hli.of_get hi;rw [A6] at hdd;obtain⟨x,hx',rfl⟩:=A8.mp hdd;have hil:i<S.length:=(AD.mp hx').1;have exi:S[i]=x:=(AD.mp hx').2;obtain⟨ya,rfl,hya⟩:=gQ_ hy;obtain⟨o1,o2,o3⟩:=mok x (hS x (AS hx'));have hn':((S.take (i+1)).map cnt).sum=n+cnt x:=by
    rw [AW,hx',AH,Bi,<-hn];simp
   have hn15:n+cnt x<=15:=by
    have:=hf_ mk (S.take (i+1)) (hSn.sublist (List.take_sublist _ _));rw [hcn,hn'] at this;lia
   rw [Bb hil,exi,n9_] at hsum;obtain⟨p,hp⟩:∃p:Nat,x.1-1=(p:Int):=⟨(x.1-1).toNat,by lia⟩;obtain⟨g,hg⟩:∃g:Nat,x.2.1-x.1-1=(g:Int):=⟨(x.2.1-x.1-1).toNat,by lia⟩;rw [hp,hg,Ai,Ai] at hsum;have rok:l2_ p d n (n+cnt x) (spR g (cnt x)):=fun r hr=>by
    obtain⟨e1,e2⟩:=hL_ hr;exact⟨by lia,by lia⟩
   obtain⟨tab',sum'⟩:=ko_ rok (TF cnt (S.drop (i+1))) tab.key (acc:=[]) ⟨by simp,fun x hx=>nomatch hx⟩;refine fun f nf=> ?_;have s7:al_ H6 (upd H6 f (.dT [])):=al_.new nf;have hf7:upd H6 f (.dT []) f=some (.dT (dd_ [])):=ae_;have nfH:H f=none:=s6.free nf;have fkd:f≠kd:=by rintro rfl;rw [hkd6] at nf;cases nf
   generalize upd H6 f (.dT [])=H7 at s7 hf7⊢;refine⟨_,rfl,kd,dd_ D,rfl, .inl (s7 _ _ hkd6),fun o H8 hk8 same8=> ?_⟩;have l8:LTS H7 H8:=LTS.rd (.inl (s7 _ _ hkd6)) same8;have s8:al_ H H8:=fun b u e=>by rw [same8 b (by rintro rfl;rw [nkd] at e;cases e)];exact s7 _ _ (s6 _ _ e)
   refine m5_ (fun j σ H9=>(∃v5 v6 v7,σ=[some (.int d),some (.ref wa),some (.ref kd),some (.ref ya),some (.ref f),v5,v6,v7])/\al_ H H9/\H9 kd=some (.frz o (.dT (dd_ D)))/\H9 l0=some (.lst lvs)/\bD_ H5 H9/\H9 f=some (.dT (dd_ (stP p (spR g (cnt x)) (D.take j) [])))) ⟨⟨_,_,_,rfl⟩,s8,hk8,l8.1 _ _ (s7 _ _ hl6),(t6.trans (bD_.of_same s7)).trans l8.2,by rw [same8 f fkd];exact hf7⟩ (fun j σ H9 _ h=>h.2.2.1) ?_ ?_
   .rintro j k c b σ H9 hj ⟨⟨v5,v6,v7,rfl⟩,s9,hk9,hl9,t9,hf9⟩ hb;unfold dd_ at hj;rw [A6] at hj;obtain⟨⟨t,cv⟩,hD,ekc⟩:=A8.mp hj;simp only [BE] at ekc;obtain⟨rfl,rfl⟩:=ekc;rw [gd_] at hb;have hDm:(t,cv)∈D:=AS hD;obtain⟨k1,k2,k3⟩:t.length=d/\t.sum=(n:Int)/\∀i:Nat,0<=t.getD i 0:=tab.key _ hDm;have hx9:Is H9 (lf x) (.ref ya):=lr_ (t9 _ _ hya);have hw9:=hwi.mono s9;rw [ie_ hD];have tabac:=(ko_ rok (fun _=>0) (xs:=D.take j) (fun y hy=>tab.key y (List.mem_of_mem_take hy)) (acc:=[]) ⟨by simp,fun x hx=>nomatch hx⟩).1;generalize stP p (spR g (cnt x)) (D.take j) []=ac at hf9 tabac⊢;refine⟨_,rfl,_,rfl,_,0,_,hx9,rfl,rfl,fun u1 hu1=> ?_⟩;rw [c5_ hu1];refine⟨_,_,rfl,rfl,_,rfl,_,1,_,hx9,rfl,rfl,fun u2 hu2=> ?_⟩;rw [c5_ hu2];refine⟨_,_,rfl,rfl,_,rfl, .inl ⟨rfl,_,SqL.of (s9 _ _ hwa)⟩,_,rfl,wa,wvs, .ref ya,1,_,rfl,rfl,SqL.of (s9 _ _ hwa),n6_ hw9 hx9, ?_⟩;rw [wlen,nb_];refine⟨.ref b,t,p,g,cnt x, ?_,h9_ hb,by lia,by decide,by lia,⟨by lia,k3,by lia⟩,fun rl H10 s10 nrl hrl=> ?_⟩
    .show [V.ref b,V.int (x.1-1),V.int (x.2.1-2),V.int (mk.count x:Nat)]=_;rw [hp,show x.2.1-2=(p:Int)+(g:Int) by lia,<-hcn]
    rw [p7_ (by lia),Bm] at hrl;obtain⟨_,rvs,e,hrl10,hri⟩:=b9_ hrl;cases e;have hrs:∀r∈spR g (cnt x),r.length=g+1/\r.sum=cnt x:=fun r hr=>hL_ hr;generalize spR g (cnt x)=rs at hri rok hrs⊢;have rlen:rvs.length=rs.length:=by rw [hri.length,A1]
    have hk10:=s10 _ _ hk9;have hf10:=s10 _ _ hf9;have rlf:rl≠f:=by rintro rfl;rw [hf9] at nrl;cases nrl
    have l0f:l0≠f:=by rintro rfl;rw [hl9] at hf9;cases hf9
    refine⟨rl,rfl,⟨_,SqL.of hrl10⟩,aL_ (xs:=rvs) (fun m σ H11=>(∃v6 v7,σ=[some (.int d),some (.ref wa),some (.ref kd),some (.ref ya),some (.ref f),some (.ref b),v6,v7])/\al_ H H11/\H11 kd=some (.frz o (.dT (dd_ D)))/\H11 l0=some (.lst lvs)/\bD_ H10 H11/\H11 rl=some (.lst rvs)/\H11 f=some (.dT (dd_ (inP t cv p (rs.take m) ac)))) ⟨⟨_,_,rfl⟩,s9.trans s10,hk10,s10 _ _ hl9,bD_.of_same (al_.refl H10),hrl10,hf10⟩ (fun m σ H11 _ h=>SqL.of h.2.2.2.2.2.1) ?_ ?_⟩
    .rintro m z σ H11 hm ⟨⟨v6,v7,rfl⟩,s11,hk11,hl11,t11,hrl11,hf11⟩;obtain⟨dd,hdd,hz⟩:=hri.of_get hm;rw [A6] at hdd;obtain⟨r,hr',rfl⟩:=A8.mp hdd;obtain⟨q,u6,rfl,hq,hu6⟩:=oL_ (iI_ t11 hz);obtain⟨ua,rfl,hua⟩:=cg_ hu6;obtain⟨r1,r2⟩:=hrs r (AS hr');have hua':H11 ua=some (.tup ((eQ_ (hu_ t p r)).map kV)):=by rw [gd_];exact hua
     have hb11:H11 b=some (.tup ((eQ_ t).map kV)):=by rw [gd_];exact t11 _ _ (s10 _ _ hb)
     have tabm:=(lu_ (v:=cv) ⟨k1,k2,k3⟩ (fun _=>0) (rs:=rs.take m) (fun r hr=>rok r (List.mem_of_mem_take hr)) tabac).1;refine⟨q,_,rfl,SqT.of hq,rfl,_,_,rfl,_,_,rfl,rfl, ?_⟩;refine⟨_,rfl,f,rfl, .inr ⟨_, .inl hf11⟩,_,rfl,_,n0_.t hf11 hua', ?_⟩;rw [mj_];refine⟨_,rfl,_,rfl,kd, .int cv,rfl, .inr ⟨dd_ D,eQ_ t,b, .inr ⟨o,hk11⟩,rfl,hb11,(oa_ tab.nd hDm).symm⟩,_,rfl,_,_,rfl,rfl, .inr (jC_ k3 (by lia) (by lia)),_,_,rfl,rfl,_,rfl,_,rfl,f,_,rfl,q5_.t hf11 hua' ?_, ?_⟩
     .rw [iw_];exact jM_ (tabm.size d5 hn15)
     .rw [show inP t cv p (rs.take (m+1)) ac=pu_ (inP t cv p (rs.take m) ac) (hu_ t p r) (cv*gt_ t p r) from ha_ _ _ rs m r hr'];rw [iv_];exact⟨⟨_,_,rfl⟩,s11.put nfH,by rw [ak_ fkd.symm];exact hk11,by rw [ak_ l0f];exact hl11,t11.trans (mi_ hf11),by rw [ak_ rlf];exact hrl11,ae_⟩
    .rintro σ H11 ⟨⟨v6,v7,rfl⟩,s11,hk11,hl11,t11,hrl11,hf11⟩;rw [rlen,AT] at hf11;exact⟨⟨_,_,_,rfl⟩,s11,hk11,hl11,(t9.trans (bD_.of_same s10)).trans t11,hf11⟩
   .rintro σ H9 ⟨⟨v5,v6,v7,rfl⟩,s9,hk9,hl9,t9,hf9⟩;rw [iw_,AT] at hf9;refine⟨_,rfl,⟨f,_,n+cnt x,⟨_,_,_,_,_,rfl⟩,hf9,tab',hn'.symm, ?_,nfH⟩,s9,hl9,t9⟩;rw [sum',hsum];simp [d8_]
  .rintro σ H6 ⟨⟨kd,D,n,⟨v3,v4,v5,v6,v7,rfl⟩,hkd6,tab,hn,hsum,nkd⟩,s6,hl6,t6⟩;refine⟨_,rfl,kd,dd_ D,D.map (·.2),rfl, .inl hkd6,kl_ D, ?_⟩;rw [llen,List.drop_length] at hsum;have:(D.map (·.2)).sum=tot:=by rw [<-mk_,<-hsum];rfl
   rw [this];exact kk H6 s6
theorem mK_:FnOk P w K mg base CX0 1 T.f28 T.d28 ["drawing"] (ok_ K):=by
 refine T.X28.F.ok ea_ (fun vs H Q E h=> ?_) (fun cdv A outer s H vs Q E hr h=> ?_)
 .obtain⟨_,_,_,rfl,_⟩:=h;rfl
 .obtain⟨dv,ps,d,rfl,hd,hok,kk⟩:=h;refine⟨_,(ac_ (an_ (i:=1) ea_.nd rfl (by trivial) ad_)
   (ac_ (aJ_ AQ rfl (aQ_ (pv 0)) (am_ (i:=2) ea_.nd rfl (by trivial)) (af_ (fi_ (i:=1) ea_.nd rfl (by trivial) (aj_ dU_ (a4_ aO_ (pv 2) ad_ (fun _ _=>rfl)) ad_) ia_)))
   (af_ (ap_ (pv 1))))), ?_⟩
  obtain⟨da,dvs,rfl,hda,hdi⟩:=b9_ hd;have dlen:dvs.length=ps.length:=by rw [hdi.length,A1]
  refine⟨_,rfl,da,rfl,⟨_,SqL.of hda⟩,aL_ (xs:=dvs) (fun i σ H2=>(∃v2,σ=[some (.ref da),some (.int (da_ (ps.take i))),v2])/\H2=H) ⟨⟨none,rfl⟩,rfl⟩ (fun i σ H2 _ h=>by rw [h.2];exact SqL.of hda) ?_ ?_⟩
  .rintro i x σ H2 hi ⟨⟨v2,rfl⟩,rfl⟩;obtain⟨dd,hdd,hy⟩:=hdi.of_get hi;rw [A6] at hdd;obtain⟨p,hp',rfl⟩:=A8.mp hdd;obtain⟨_,w1,w2⟩:=hok p (AS hp');have b1:p.2.2.natAbs<2^64:=by lia
   have b2:p.2.2^(2:Int).toNat<2^64:=by
    show p.2.2^2<2^64;have:p.2.2*p.2.2<=2^20*2^20:=C8 w2 w2 (by lia) (by decide);rw [D6,D6,Int.pow_zero,Int.one_mul];lia
   have b3: -(2^64)<p.2.2^(2:Int).toNat:=by
    show _<p.2.2^2;have h0:0<=p.2.2*p.2.2:=Bf (by lia) (by lia);have h1:p.2.2^2=p.2.2*p.2.2:=by rw [D6,D6,Int.pow_zero,Int.one_mul]
    rw [h1];lia
   refine⟨_,rfl,_,rfl,_,2,_,hy,rfl,rfl,fun u hu=> ?_⟩;rw [c5_ hu];refine⟨_,_,rfl,rfl,⟨by decide,by decide,b1⟩,_,_,rfl,rfl, .inr ⟨b3,b2⟩,⟨some x, ?_⟩,rfl⟩;rw [AW,hp'];unfold da_;rw [CH];rfl
  .rintro σ H2 ⟨⟨v2,rfl⟩,rfl⟩;rw [dlen,AT];exact⟨_,rfl,kk⟩
theorem dq_:FnOk P w K mg base CX0 1 T.f35 T.d35 ["_law_cell"] (ol_ K):=by
 refine T.X35.F.ok ba_ (fun vs H Q E h=> ?_) (fun cdv A outer s H vs Q E hr h=> ?_)
 .obtain⟨_,rfl,_⟩:=h;rfl
 .obtain⟨x,rfl,kk⟩:=h;refine⟨_,(ac_ (a2_ (av_ kZ_ (pv 0) (aj_ dU_ ad_ ad_) (az_ _)) (af_ (ap_ (aj_ aD_ (pv 0) (aj_ dU_ ad_ ad_)))) ax_)
   (ac_ (a2_ (av_ mH_ (pv 0) (aj_ aD_ ad_ (aj_ dU_ ad_ ad_)) (az_ _)) (af_ (ap_ (aj_ aD_ (aj_ aD_ ad_ (pv 0)) (aj_ dU_ ad_ ad_)))) ax_)
   (ac_ (an_ (i:=1) ba_.nd rfl (by trivial) (aj_ aF_ (aj_ gN_ (pv 0) ad_) ad_))
   (ac_ (an_ (i:=2) ba_.nd rfl (by trivial) ad_)
   (ac_ (aJ_ AQ rfl (dk_ (by rfl) T.n_range (aa_ ad_ ab_)) (am_ (i:=3) ba_.nd rfl (by trivial)) (ac_ (an_ (i:=1) ba_.nd rfl (by trivial) (aj_ gN_ (aj_ aF_ (aj_ aF_ (aj_ aF_ (aj_ bl_ (pv 1) ad_) (aj_ bl_ (aj_ bl_ ad_ (pv 3)) (pv 3))) (aj_ k0_ (pv 1) ad_)) ad_) ad_))
   (af_ (an_ (i:=2) ba_.nd rfl (by trivial) (aj_ aF_ (aj_ bl_ (pv 2) ad_) (aj_ gN_ (aj_ bl_ (pv 1) ad_) ad_))))))
   (af_ (ap_ (pv 2)))))))), ?_⟩
  have e18:(10:Int)^(18:Int).toNat=10^18:=rfl;refine⟨_,rfl,10,18,rfl,rfl,⟨by decide,by decide,by decide⟩,_,_,rfl,rfl,_,rfl,ee_ (fun h=> ?_) (fun h=> ?_)⟩
  .exact⟨_,rfl,10,18,rfl,rfl,⟨by decide,by decide,by decide⟩,_,_,rfl,rfl,kk _ (by lia)⟩
  .refine⟨_,rfl,10,18,rfl,rfl,⟨by decide,by decide,by decide⟩,_,_,rfl,rfl,_,_,rfl,rfl,_,rfl,ee_ (fun h2=> ?_) (fun h2=> ?_)⟩
   .exact⟨_,rfl,_,_,rfl,rfl,10,18,rfl,rfl,⟨by decide,by decide,by decide⟩,_,_,rfl,rfl,kk _ (by lia)⟩
   .refine⟨_,rfl,_,_,rfl,rfl,(show(0:Int)<2147483629 by decide),_,_,rfl,rfl, ?_⟩;refine⟨8,rfl,by decide,by decide,bt_ (n:=8) (fun i σ H2=>(∃(y f:Int) (v3:Option V),σ=[some (.int x),some (.int y),some (.int f),v3]/\0<=y/\0<=f)/\H2=H) ⟨⟨_,0,none,rfl,by lia,by decide⟩,rfl⟩ ?_ ?_⟩
    .rintro i σ H2 hi ⟨⟨y,f,v3,rfl,y0,f0⟩,rfl⟩;refine⟨_,rfl,_,_,rfl,rfl, .inr ⟨by decide,by decide⟩,_,rfl,_,_,rfl,rfl, .inl ⟨by decide,by decide⟩,_,rfl,_,_,rfl,rfl, .inr ⟨by lia,by lia⟩,_,_,rfl,rfl,_,rfl,_,_,rfl,rfl,⟨by decide,by decide⟩,_,_,rfl,rfl,_,_,rfl,rfl,_,_,rfl,rfl,(show(0:Int)<2147483647 by decide), ?_⟩;refine⟨_,rfl,_,_,rfl,rfl, .inr ⟨by decide,by decide⟩,_,rfl,_,_,rfl,rfl, .inr ⟨by decide,by decide⟩,_,_,rfl,rfl,(show(0:Int)<2147483629 by decide),_,_,rfl,rfl, ?_⟩;exact⟨⟨_,_,_,rfl,Int.emod_nonneg _ (by decide),Int.add_nonneg (Bf f0 (by decide)) (Int.emod_nonneg _ (by decide))⟩,rfl⟩
    .rintro σ H2 ⟨⟨y,f,v3,rfl,y0,f0⟩,rfl⟩;exact⟨_,rfl,kk _ f0⟩
theorem as_:FnOk P w K mg base CX0 1 T.f36 T.d36 ["_law_rest","_law_m"] (rN_ K):=by
 refine T.X36.F.ok dh_ (fun vs H Q E h=> ?_) (fun cdv A outer s H vs Q E hr h=> ?_)
 .obtain⟨_,_,_,rfl,_⟩:=h;rfl
 .obtain⟨b,m,z,rfl,hb,z0,m0,m1,kk⟩:=h;refine⟨_,(ac_ (an_ (i:=2) dh_.nd rfl (by trivial) (aj_ gN_ (a4_ bc_ (pv 0) ad_ (fun _ _=>rfl)) (pv 1)))
   (ac_ (iH_ (aj_ mI_ (a4_ bc_ (pv 0) ad_ (fun _ _=>rfl)) (pv 1)) (kQ_ (pv 0) ad_ de_))
   (af_ (ap_ (pv 2))))), ?_⟩
  refine⟨_,rfl,b,_,_,_,rfl,rfl,SqL.of hb,by rfl,_,rfl,_,_,rfl,rfl,m0, ?_⟩;refine⟨_,rfl,b,_,_,_,rfl,rfl,SqL.of hb,by rfl,_,rfl,_,_,rfl,rfl,qU_ m0 m1,_,rfl,b,_,_,0,rfl,rfl,hb,by rfl, ?_⟩;exact⟨_,rfl,kk _ _ (Int.emod_nonneg _ (by lia)) (Int.emod_lt_of_pos _ m0) (Int.fdiv_nonneg z0 (by lia))⟩
theorem pd_ {s:List Int}{x:Int}:atI ((s++[x]).map V.int) (-1)=some (.int x):=by
 unfold atI ixN;rw [A1,AB,A9 (by decide),AA (by simp;lia)];show((s++[x]).map V.int)[((-1:Int)+((s.length+1:Nat):Int)).toNat]? =_;rw [show((-1:Int)+((s.length+1:Nat):Int)).toNat=s.length by lia,A6,BD (A7 _),Ce];rfl
theorem gO_:FnOk P w K mg base CX0 2 T.f5 T.d5 ["thing"] (rJ_ K):=by
 refine T.X5.F.ok gI_ (fun vs H Q E h=> ?_) (fun cdv A outer s H vs Q E hr h=> ?_)
 .obtain⟨_,rfl,_⟩:=h;rfl
 .obtain⟨r,rfl,h⟩:=h;refine⟨_,(ac_ (a2_ (cQ_ (di_ (aE_ dw_ (by rfl) T.n_isinstance Bw (aa_ (pv 0) (aa_ (dG_ (v:= .ty "list") (by rfl) T.n_list boot_list (by rfl)) ab_))))) (af_ (ap_ ex_)) ax_)
   (ac_ (aJ_ AQ rfl (aQ_ (pv 0)) (am_ (i:=1) gI_.nd rfl (by trivial)) (af_ (a2_ (fN_ (cQ_ (di_ (ah_ (eD_ T) (hr.mono (by decide)) (by rfl) T.X0.m T.X0.F.kp T.X0.B .nil ar_ (aa_ (pv 1) ab_)))) (dT_ (av_ hV_ (pv 1) ad_ (az_ _)))).pt (af_ (ap_ ex_)) ax_)))
   (af_ (ap_ (rZ_ (oC_ (pv 0)) (gM_ (hU_ jG_ (a4_ bc_ (pv 0) (kR_ gA_ ad_) (fun _ _=>rfl)) ad_ (az_ _)))))))), ?_⟩
  have key:(∃a t b,r= .ref a/\H a=some (.lst (t.map V.int))/\Nn t/\Q (.bl b) H/\(t=[]/\b=true\/∃s x,t=s++[x]/\b=decide (0<x)))\/(sj_ H r/\Q (.bl false) H)\/(sx_ H r/\Q (.bl false) H):=by
   rcases h with⟨t,hv,⟨tn,tt⟩,kk⟩|⟨hn|hn|⟨a,t,rfl,ha,tn⟩,kk⟩
   .obtain⟨a,rfl,ha⟩:=bO_ hv;refine .inl ⟨a,t,true,rfl,ha,tn,kk, ?_⟩;rcases tt with e|⟨s,x,e,x0⟩
    .exact .inl ⟨e,rfl⟩
    .exact .inr ⟨s,x,e,(BC x0).symm⟩
   .exact .inr (.inl ⟨hn,kk⟩)
   .exact .inr (.inr ⟨hn,kk⟩)
   .exact .inl ⟨a,t++[0],false,rfl,ha,fY_ tn (by decide),kk, .inr ⟨t,0,rfl,rfl⟩⟩
  clear h;rcases key with⟨a,t,b,rfl,ha,tn,kk,tt⟩|⟨hn,kk⟩|⟨⟨a,xs,i,x,rfl,ha,hx,pre,tx,neg⟩,kk⟩
  .refine⟨_,rfl,_,"list",_,true,rfl, .lst ha,gc_,true,rfl,dQ_ ?_⟩;refine⟨_,rfl,a,rfl,⟨_,SqL.of ha⟩,aL_ (xs:=t.map V.int) (fun i σ H2=>(∃v1,σ=[some (.ref a),v1])/\H2=H) ⟨⟨none,rfl⟩,rfl⟩ (fun i σ H2 _ h=>by rw [h.2];exact SqL.of ha) ?_ ?_⟩
   .rintro i y σ H2 hi ⟨⟨v1,rfl⟩,rfl⟩;rw [A6] at hi;obtain⟨x,hx,rfl⟩:=A8.mp hi;have x0:0<=x:=by
     have:=tn i;rw [A5,hx] at this;exact this
    refine⟨_,rfl,_,rfl, .inl ⟨_,rfl⟩,true,rfl,dQ_ ⟨_,rfl,_,_,rfl,rfl,_,rfl,ee_ (fun h=>absurd h (by lia)) (fun _=>⟨⟨_,rfl⟩,rfl⟩)⟩⟩
   .rintro σ H2 ⟨⟨v1,rfl⟩,rfl⟩;refine⟨_,rfl,a,_,rfl,SqL.of ha,_,rfl, ?_⟩;rcases tt with⟨rfl,rfl⟩|⟨s,x,rfl,rfl⟩
    .exact d0_ kk
    .have e0:((s++[x]).map V.int).isEmpty=false:=by
      cases s<;>rfl
     rw [e0];exact dQ_ ⟨_,rfl,1,rfl,a,_,-1, .int x,rfl,rfl,SqL.of ha,pd_,_,_,rfl,rfl,kk⟩
  .rcases hn with⟨ht,hne⟩|⟨a,rfl,ha⟩
   .rcases ht with⟨i,rfl⟩|⟨b,rfl⟩|rfl|⟨x,rfl⟩|⟨a,xs,rfl,ha⟩|⟨a,xs,rfl,ha⟩
    .exact⟨_,rfl,_,"list",_,false,rfl, .int i,rfl,false,rfl,d0_ kk⟩
    .exact⟨_,rfl,_,"list",_,false,rfl, .bl b,rfl,false,rfl,d0_ kk⟩
    .exact⟨_,rfl,_,"list",_,false,rfl, .non,rfl,false,rfl,d0_ kk⟩
    .exact⟨_,rfl,_,"list",_,false,rfl, .str x,rfl,false,rfl,d0_ kk⟩
    .exact absurd ha (hne a xs rfl)
    .exact⟨_,rfl,_,"list",_,false,rfl, .tup ha,rfl,false,rfl,d0_ kk⟩
   .exact⟨_,rfl,_,"list",_,false,rfl, .dK ha,rfl,false,rfl,d0_ kk⟩
  .refine⟨_,rfl,_,"list",_,true,rfl, .lst ha,gc_,true,rfl,dQ_ ?_⟩;refine⟨_,rfl,a,rfl,⟨_,SqL.of ha⟩,aL_ (xs:=xs) (fun j σ H2=>(∃v1,σ=[some (.ref a),v1])/\H2=H/\j<=i) ⟨⟨none,rfl⟩,rfl,AK _⟩ (fun i σ H2 _ h=>by rw [h.2.1];exact SqL.of ha) ?_ ?_⟩
   .rintro j y σ H2 hj ⟨⟨v1,rfl⟩,rfl,ji⟩;by_cases e:j=i
    .subst e;rw [hx] at hj;cases hj;refine⟨_,rfl,x,rfl,tx,isI x,rfl, ?_⟩;cases hv:isI x with
     |false=>exact d0_ (d0_ kk)
     |true=>
      obtain⟨n,rfl⟩:∃n,x= .int n:=by
       cases x<;>first|exact⟨_,rfl⟩|cases hv
      have:=neg n rfl;exact dQ_ ⟨_,rfl,_,_,rfl,rfl,_,rfl,ee_ (fun _=>kk) (fun h=>absurd this (by lia))⟩
    .obtain⟨n,hn,n0⟩:=pre j (by lia);rw [hn] at hj;cases hj;exact⟨_,rfl,_,rfl, .inl ⟨_,rfl⟩,true,rfl,dQ_ ⟨_,rfl,_,_,rfl,rfl,_,rfl,ee_ (fun h=>absurd h (by lia)) (fun _=>⟨⟨_,rfl⟩,rfl,by lia⟩)⟩⟩
   .rintro σ H2 ⟨_,_,ji⟩;exact absurd (AD.mp hx).1 (by lia)
theorem j6_ {t:List Int}{i:Nat}{x:Int} (h:t[i]? =some x):((List.range (i+1)).map fun j:Nat=>((j:Int)+1)*t.getD j 0)=((List.range i).map fun j:Nat=>((j:Int)+1)*t.getD j 0)++[((i:Int)+1)*x]:=by
 rw [B6,AH,AO,D5,A5,h];rfl
theorem nh_ (t:List Int):((List.range t.length).map fun j:Nat=>((j:Int)+1)*t.getD j 0).sum=wtF t:=by
 have go:∀(t:List Int) (i:Int),((List.range t.length).map fun j:Nat=>((j:Int)+i)*t.getD j 0).sum=wtG i t:=fun t=>by
  induction t with
  |nil=>intro i;rfl
  |cons x t ih=>
   intro i;rw [AL,List.range_succ_eq_map,AO,Bm,Ae];unfold wtG;rw [<-ih (i+1)];congr 1
   .simp
   .refine Be List.sum (BZ fun j _=> ?_);show(((j+1:Nat):Int)+i)*t.getD j 0=_;rw [show((j+1:Nat):Int)+i=(j:Int)+(i+1) by lia]
 exact go t 1
theorem dn_:FnOk P w K mg base CX0 1 T.f6 T.d6 ["row"] (rC_ K):=by
 refine T.X6.F.ok df_ (fun vs H Q E h=> ?_) (fun cdv A outer s H vs Q E hr h=> ?_)
 .obtain⟨_,_,rfl,_⟩:=h;rfl
 .obtain⟨v,t,rfl,hv,tl,kk⟩:=h;refine⟨_,(af_ (ap_ (aE_ (ei_ rfl) (by rfl) T.n_sum boot_sum (aa_ (cK_ (XN:=["row"]) (sc:=ag_ br_) (N:=["place","number"]) (own:=2) (js:=[]) rfl (by ac_nf) rfl rfl (hS_ (by rfl) T.n_enumerate (pv 0)) (fun _ _ _ _=>(hT_ (K:=K) rfl rfl (aq_ (am_ (i:=0) (show List.Nodup (["place","number"]:List Str) by ac_nf) rfl (Or.inl rfl) (.inr rfl)) (aq_ (am_ (i:=1) (show List.Nodup (["place","number"]:List Str) by ac_nf) rfl (Or.inl rfl) (.inr rfl)) a5_)))) eA_ (fun _ _ _ _=>dj_) (fun _ _ _ _=>(aj_ bl_ (aj_ aF_ (pv 0) ad_) (pv 1)))) ab_)))), ?_⟩;obtain⟨a,rfl,ha⟩:=bO_ hv;refine⟨_,rfl,a,rfl,⟨_,SqL.of ha⟩,fun acc na=> ?_⟩;refine jX_ (xs:=t.map V.int) (own:=2) (js:=[]) (fun i H2=>al_ H H2/\H2 acc=some (.lst (((List.range i).map fun j:Nat=>((j:Int)+1)*t.getD j 0).map V.int))) ⟨al_.new na,ae_⟩ (fun i H2 _ h=>SqL.of (h.1 _ _ ha)) ?_ ?_ eI_ dr_ ?_
  .rintro i y H2 p hi ⟨s2,hacc⟩ np;rw [A6] at hi;obtain⟨x,hx,rfl⟩:=A8.mp hi;have il:i<t.length:=(AD.mp hx).1;have s3:al_ H2 (upd H2 p (.tup [.int i, .int x])):=al_.new np;refine⟨p,_,rfl,SqT.of ae_,rfl,_,_,rfl,_,_,rfl,rfl, ?_⟩;refine⟨_,rfl,_,_,rfl,rfl,_,rfl,_,_,rfl,rfl, .inl ⟨by lia,by lia⟩,acc,_,_,rfl,rfl,s3 _ _ hacc,au_ (by rw [A1,A1,BJ];lia),(s2.trans s3).put na, ?_⟩;rw [ae_,j6_ hx,AH];rfl
  .rintro H2 ⟨s2,hacc⟩;rw [A1] at hacc;refine⟨acc,_,rfl,SqL.of hacc, ?_⟩;rw [nh_];exact kk H2 s2
  .rintro σ H R R' k ⟨v1,e1,i1,i2,e2,e3,v2,e4,i3,i4,e5,e6,c,h⟩;exact⟨v1,e1,i1,i2,e2,e3,v2,e4,i3,i4,e5,e6,c,k _ _ h⟩
theorem cS_:FnOk P w K mg base CX0 1 T.f6 T.d6 ["row"] (rB_ K):=by
 refine T.X6.F.ok df_ (fun vs H Q E h=> ?_) (fun cdv A outer s H vs Q E hr h=> ?_)
 .obtain⟨_,_,rfl,_⟩:=h;rfl
 .obtain⟨v,t,rfl,hv,tl,kk⟩:=h;refine⟨_,(af_ (ap_ (aE_ (ei_ rfl) (by rfl) T.n_sum boot_sum (aa_ (cK_ (XN:=["row"]) (sc:=ag_ br_) (N:=["place","number"]) (own:=2) (js:=[]) rfl (by ac_nf) rfl rfl (ec_ (by rfl) T.n_enumerate (pv 0)) (fun _ _ _ _=>(hT_ (K:=K) rfl rfl (aq_ (am_ (i:=0) (show List.Nodup (["place","number"]:List Str) by ac_nf) rfl (Or.inl rfl) (.inr rfl)) (aq_ (am_ (i:=1) (show List.Nodup (["place","number"]:List Str) by ac_nf) rfl (Or.inl rfl) (.inr rfl)) a5_)))) eA_ (fun _ _ _ _=>dj_) (fun _ _ _ _=>(aj_ bl_ (aj_ aF_ (pv 0) ad_) (pv 1)))) ab_)))), ?_⟩;obtain⟨a,rfl,ha⟩:=cg_ hv;refine⟨_,rfl,a,rfl,⟨_,SqT.of ha⟩,fun acc na=> ?_⟩;refine jW_ (xs:=t.map V.int) (own:=2) (js:=[]) (fun i H2=>al_ H H2/\H2 acc=some (.lst (((List.range i).map fun j:Nat=>((j:Int)+1)*t.getD j 0).map V.int))) ⟨al_.new na,ae_⟩ (fun i H2 _ h=>SqT.of (h.1 _ _ ha)) ?_ ?_ eI_ dr_ ?_
  .rintro i y H2 p hi ⟨s2,hacc⟩ np;rw [A6] at hi;obtain⟨x,hx,rfl⟩:=A8.mp hi;have il:i<t.length:=(AD.mp hx).1;have s3:al_ H2 (upd H2 p (.tup [.int i, .int x])):=al_.new np;refine⟨p,_,rfl,SqT.of ae_,rfl,_,_,rfl,_,_,rfl,rfl, ?_⟩;refine⟨_,rfl,_,_,rfl,rfl,_,rfl,_,_,rfl,rfl, .inl ⟨by lia,by lia⟩,acc,_,_,rfl,rfl,s3 _ _ hacc,au_ (by rw [A1,A1,BJ];lia),(s2.trans s3).put na, ?_⟩;rw [ae_,j6_ hx,AH];rfl
  .rintro H2 ⟨s2,hacc⟩;rw [A1] at hacc;refine⟨acc,_,rfl,SqL.of hacc, ?_⟩;rw [nh_];exact kk H2 s2
  .rintro σ H R R' k ⟨v1,e1,i1,i2,e2,e3,v2,e4,i3,i4,e5,e6,c,h⟩;exact⟨v1,e1,i1,i2,e2,e3,v2,e4,i3,i4,e5,e6,c,k _ _ h⟩
theorem dW_:FnOk P w K mg base (CX1 P w) 3 T.f7 T.d7 ["d","held","free"] (rF_ T.c_NoEnds):=by
 refine T.X7.F.okx gH_ (fun vs H Q E h=> ?_) (fun cdv A outer s H vs Q E hr h hR hp=> ?_)
 .obtain⟨_,_,_,rfl,_⟩:=h;rfl
 .obtain⟨d,r1,r2,rfl,h⟩:=h;refine⟨_,(ac_ (a2_ (fN_ (cQ_ (di_ (ah_ (gO_ T) (hr.mono (by decide)) (by rfl) T.X5.m T.X5.F.kp T.X5.B .nil ar_ (aa_ (pv 1) ab_)))) (dT_ (cQ_ (di_ (ah_ (gO_ T) (hr.mono (by decide)) (by rfl) T.X5.m T.X5.F.kp T.X5.B .nil ar_ (aa_ (pv 2) ab_)))))).pt (af_ (fO_ hR (by rfl) T.m_NoEnds T.x_NoEnds rfl (aa_ ev_ ab_))) ax_)
   (af_ (a2_ (av_ qb_ (aj_ aF_ (ah_ (dn_ T) (hr.mono (by decide)) (by rfl) T.X6.m T.X6.F.kp T.X6.B .nil ar_ (aa_ (pv 1) ab_)) (ah_ (dn_ T) (hr.mono (by decide)) (by rfl) T.X6.m T.X6.F.kp T.X6.B .nil ar_ (aa_ (pv 2) ab_))) (pv 0) (az_ _)) (af_ (fO_ hR (by rfl) T.m_NoEnds T.x_NoEnds rfl (aa_ ev_ ab_))) ax_))), ?_⟩
  rcases h with⟨a,b,h1,h2,ra,rb,e,kk⟩|⟨bad,ke⟩
  .refine⟨_,rfl,r1,rfl, .inl ⟨a,h1,ra.inn,true,rfl,dQ_ ⟨_,rfl,r2,rfl, .inl ⟨b,h2,rb.inn,true,rfl,dQ_ ?_⟩⟩⟩⟩;refine⟨_,rfl,r1,a,rfl,h1,ra.2.1,fun H1 s1=>⟨_,rfl,r2,b,rfl,h2.mono s1,rb.2.1,fun H2 s2=> ?_⟩⟩;exact⟨_,_,rfl,rfl,_,rfl,rfl,_,rfl,qz_ (fun hz=>absurd e hz) fun _=>kk H2 (s1.trans s2)⟩
  .rcases bad with hn|⟨a,h1,ra,hn⟩|⟨a,b,h1,h2,ra,rb,la,lb,ne⟩
   .exact⟨_,rfl,r1,rfl, .inr ⟨hn,false,rfl,d0_ (d0_ ⟨(by show 1<=sizeLine;decide),ke H (al_.refl _)⟩)⟩⟩
   .exact⟨_,rfl,r1,rfl, .inl ⟨a,h1,ra,true,rfl,dQ_ ⟨_,rfl,r2,rfl, .inr ⟨hn,false,rfl,d0_ ⟨(by show 1<=sizeLine;decide),ke H (al_.refl _)⟩⟩⟩⟩⟩
   .refine⟨_,rfl,r1,rfl, .inl ⟨a,h1,ra,true,rfl,dQ_ ⟨_,rfl,r2,rfl, .inl ⟨b,h2,rb,true,rfl,dQ_ ?_⟩⟩⟩⟩;refine⟨_,rfl,r1,a,rfl,h1,la,fun H1 s1=>⟨_,rfl,r2,b,rfl,h2.mono s1,lb,fun H2 s2=> ?_⟩⟩;exact⟨_,_,rfl,rfl,_,rfl,rfl,_,rfl,qz_ (fun _=>⟨(by show 1<=sizeLine;decide),ke H2 (s1.trans s2)⟩) fun e=>absurd e ne⟩
theorem do_:FnOk P w K mg base CX0 1 T.f10 T.d10 ["numbers"] (rE_ K):=by
 refine T.X10.F.ok bz_ (fun vs H Q E h=> ?_) (fun cdv A outer s H vs Q E hr h=> ?_)
 .obtain⟨_,_,rfl,_⟩:=h;rfl
 .obtain⟨v,ws,rfl,hv,hw,kk⟩:=h;refine⟨_,(ac_ (an_ (i:=1) bz_.nd rfl (by trivial) ad_)
   (ac_ (aJ_ AQ rfl (aQ_ (pv 0)) (am_ (i:=2) bz_.nd rfl (by trivial)) (af_ (fi_ (i:=1) bz_.nd rfl (by trivial) (pv 2) ia_)))
   (af_ (ap_ (pv 1))))), ?_⟩
  obtain⟨a,rfl,ha⟩:=bO_ hv;refine⟨_,rfl,a,rfl,⟨_,SqL.of ha⟩,aL_ (xs:=ws.map V.int) (fun i σ H2=>(∃v2,σ=[some (.ref a),some (.int (gv_ (ws.take i))),v2])/\H2=H) ⟨⟨none,rfl⟩,rfl⟩ (fun i σ H2 _ h=>by rw [h.2];exact SqL.of ha) ?_ ?_⟩
  .rintro i y σ H2 hi ⟨⟨v2,rfl⟩,rfl⟩;rw [A6] at hi;obtain⟨x,hx,rfl⟩:=A8.mp hi;obtain⟨x1,x5⟩:=hw x (AS hx);refine⟨_,rfl,_,rfl,_,_,rfl,rfl, .inr ⟨by lia,by lia⟩,⟨some (.int x), ?_⟩,rfl⟩;have e:gv_ (ws.take (i+1))=gv_ (ws.take i)*x:=by
    rw [AW,hx];unfold gv_;rw [CH];rfl
   rw [e];rfl
  .rintro σ H2 ⟨⟨v2,rfl⟩,rfl⟩;rw [A1,AT];exact⟨_,rfl,kk⟩
theorem dX_:FnOk P w K mg base CX0 1 T.f11 T.d11 ["row","length"] (rL_ K):=by
 refine T.X11.F.ok gJ_ (fun vs H Q E h=> ?_) (fun cdv A outer s H vs Q E hr h=> ?_)
 .obtain⟨_,_,_,rfl,_⟩:=h;rfl
 .obtain⟨v,t,n,rfl,hv,tn,n5,kk⟩:=h;refine⟨_,(af_ (ap_ (cz_ b1_ (by rfl) T.n_tuple boot_tuple (aa_ (aj_ eC_ (pv 0) (aj_ c4_ (aw_ (aa_ ad_ ab_)) (aj_ aD_ (pv 1) (aE_ bv_ (by rfl) T.n_len boot_len (aa_ (pv 0) ab_))))) ab_)))), ?_⟩;obtain⟨a,rfl,ha⟩:=bO_ hv;refine⟨_,rfl,(by show 1<=sizeLine;decide),fun l1 H1 n1 s1 h1=> ?_⟩;refine⟨_,rfl,_,rfl,a,_,rfl, .inl (SqL.of (s1 _ _ ha)),_,_,rfl,rfl, .i 0,_,co_ h1 (ai_ d1_ ao_),rfl, ?_, ?_, ?_,fun l2 H2 n2 s2 h2=> ?_⟩
  .rw [A1];lia
  .rw [A1];lia
  .exact AZ (au_ (by rw [A1];lia))
  refine⟨_,_,hv.mono (s1.trans s2),h2,AZ (au_ (by rw [A1,BM,A1];lia)),fun l3 H3 n3 s3 h3=> ?_⟩;refine⟨_,_,rfl,h3,fun l4 H4 n4 s4 h4=>kk _ H4 (((s1.trans s2).trans s3).trans s4) ?_⟩;have e:t.map D.i++List.replicate (((n:Int))-(((t.map V.int).length:Nat):Int)).toNat (D.i 0)=(hB_ n t).map D.i:=by
   unfold hB_;rw [A1,AH,CC,show((n:Int)-(t.length:Int)).toNat=n-t.length by lia]
  rw [e] at h4;exact h4
theorem fa_:FnOk P w K mg base CX0 1 T.f12 T.d12 ["row"] (rA_ K):=by
 refine T.X12.F.ok a0_ (fun vs H Q E h=> ?_) (fun cdv A outer s H vs Q E hr h=> ?_)
 .obtain⟨_,_,rfl,_⟩:=h;rfl
 .obtain⟨v,t,rfl,hv,tn,ts,tl,kk⟩:=h;refine⟨_,(ac_ (an_ (i:=1) a0_.nd rfl (by trivial) (aw_ (aa_ (aR_ ab_) ab_)))
   (ac_ (aJ_ AQ rfl (p3_ (pv 0)) (am_ (i:=2) a0_.nd rfl (by trivial)) (ac_ (an_ (i:=3) a0_.nd rfl (by trivial) (aw_ ab_))
   (ac_ (aJ_ AQ rfl (aQ_ (pv 1)) (am_ (i:=4) a0_.nd rfl (by trivial)) (af_ (aN_ (dF_ Ab C5 C4 cF_ (pv 3) (aa_ (cK_ (XN:=["row","found","number","longer","begun"]) (sc:=ag_ bB_) (N:=["here","begun"]) (own:=1) (js:=[4]) rfl (by ac_nf) rfl rfl (dk_ (by rfl) T.n_range (aa_ (aj_ aF_ (pv 2) ad_) ab_)) (fun _ _ _ _=>(am_ (i:=0) (show List.Nodup (["here","begun"]:List Str) by ac_nf) rfl (Or.inl rfl) (.inr rfl))) (eB_ (by decide)) (fun _ _ _ _=>dj_) (fun _ _ _ _=>(aj_ hW_ (pv 1) (aR_ (aa_ (pv 0) ab_))))) ab_)))))
   (af_ (an_ (i:=1) a0_.nd rfl (by trivial) (pv 3))))))
   (af_ (ap_ (pv 1))))), ?_⟩
  obtain⟨a,rfl,ha⟩:=cg_ hv;refine⟨AK _,fun e0 H1 ne0 s1 he0=>⟨(by show 1<=sizeLine;decide),fun f0 H2 nf0 s2 hf0=> ?_⟩⟩;have s02:=s1.trans s2;refine⟨_,rfl,a,rfl,⟨_,SqT.of (s02 _ _ ha)⟩,o3_ (xs:=t.map V.int) (fun i σ H3=>(∃fo v2 v3 v4,σ=[some (.ref a),some (.ref fo),v2,v3,v4]/\H fo=none/\Is H3 (.l ((rwF (t.take i)).map tI)) (.ref fo))/\al_ H H3) ⟨⟨f0,none,none,none,rfl,s1.free nf0,co_ hf0 (ai_ (h9_ (xs:=[]) (s2 _ _ he0)) ao_)⟩,s02⟩ (fun i σ H3 _ h=>SqT.of (h.2 _ _ ha)) ?_ ?_⟩
  .rintro i y σ H3 hi ⟨⟨fo,v2,v3,v4,rfl,nfo,hfo⟩,s3⟩;rw [A6] at hi;obtain⟨x,hx,rfl⟩:=A8.mp hi;have il:i<t.length:=(AD.mp hx).1;have x0:0<=x:=by
    have:=tn i;rw [A5,hx] at this;exact this
   have nx:rwF (t.take (i+1))=rwS (rwF (t.take i)) x:=by
    rw [AW,hx];unfold rwF;rw [CH];rfl
   have big:(rwS (rwF (t.take i)) x).length<=32:=by rw [<-nx];exact ky_ tn ts (i+1)
   have hFl:∀b∈rwF (t.take i),b.length<=5:=fun b hb=>by
    have:=(kx_ (oN_ tn i) hb).len;rw [Ad] at this;lia
   rw [nx];generalize rwF (t.take i)=F at hfo big hFl;obtain⟨_,fvs,e,hfo3,hfi⟩:=b9_ hfo;cases e;have flen:fvs.length=F.length:=by rw [hfi.length,A1]
   refine⟨AK _,fun lo H4 nlo s4 hlo=> ?_⟩;have nloH:H lo=none:=s3.free nlo;have fl:fo≠lo:=by rintro rfl;rw [hfo3] at nlo;cases nlo
   have part:∀j,(rwS (F.take j) x).length<=32:=fun j=>by
    rw [kz_] at big⊢;refine Az (Nat.mul_le_mul_right _ ?_) big;rw [Ad];lia
   refine⟨_,rfl,fo,rfl,⟨_,SqL.of (s4 _ _ hfo3)⟩,aL_ (xs:=fvs) (fun j σ H5=>(∃v4,σ=[some (.ref a),some (.ref fo),some (.int x),some (.ref lo),v4])/\al_ H H5/\H5 fo=some (.lst fvs)/\bD_ H4 H5/\∃lvs,H5 lo=some (.lst lvs)/\Iss H5 ((rwS (F.take j) x).map tI) lvs) ⟨⟨_,rfl⟩,s3.trans s4,s4 _ _ hfo3,bD_.of_same (al_.refl _),[],hlo,ao_⟩ (fun j σ H5 _ h=>SqL.of h.2.2.1) ?_ ?_⟩
   .rintro j b σ H5 hj ⟨⟨v4,rfl⟩,s5,hfo5,t5,lvs,hlo5,hl5⟩;obtain⟨dd,hdd,hb⟩:=hfi.of_get hj;rw [A6] at hdd;obtain⟨bb,hbb,rfl⟩:=A8.mp hdd;have hb5:Is H5 (tI bb) b:=e6_ t5 (hb.mono s4);have nx2:rwS (F.take (j+1)) x=rwS (F.take j) x++(List.range (x+1).toNat).map fun h:Nat=>bb++[(h:Int)]:=by
     unfold rwS;rw [AW,hbb,B5];simp
    have pj:=part (j+1);rw [nx2] at pj⊢;rw [AB,A1,BJ] at pj;have ll:lvs.length=(rwS (F.take j) x).length:=by rw [hl5.length,A1]
    generalize rwS (F.take j) x=R at hl5 pj ll;refine⟨_,rfl, .inl ⟨rfl,_,SqL.of hlo5⟩,_,rfl,_,_,rfl,rfl,_,rfl,by lia,by lia,fun acc na=> ?_⟩;have naH:H acc=none:=s5.free na;refine jV_ (lo:=0) (n:=(x+1).toNat) (own:=1) (js:=[4]) (fun m H6=>al_ H5 H6/\∃zs,H6 acc=some (.lst zs)/\Iss H6 (((List.range m).map fun h:Nat=>bb++[(h:Int)]).map tI) zs) ⟨al_.new na,[],ae_,ao_⟩ ?_ ?_ eJ_ dr_ ?_
    .rintro m H6 hm ⟨s6,zs,hacc,hz⟩;rw [Int.zero_add];refine⟨_,rfl,_,rfl,(by show 1<=sizeLine;decide),fun q H7 nq s7 hq=> ?_⟩;have s57:=s6.trans s7;refine⟨bb.map .i,[.i (m:Int)],hb5.mono s57,fs_ hq (ai_ d1_ ao_),AZ (au_ (by have:=hFl bb (AS hbb);rw [A1];show _+1<=1000;lia)),fun u H8 s8 hu=> ?_⟩;have hacc8:=s8 _ _ (s7 _ _ hacc);have zl:zs.length=m:=by rw [hz.length,A1,A1,BJ]
     refine⟨acc,zs,_,rfl,rfl,hacc8,au_ (by lia),(s57.trans s8).put na,_,ae_, ?_⟩;have tu:bD_ H8 (upd H8 acc (.lst (zs++[u]))):=bD_.upd hacc8;rw [B6,AH,AH];refine(ff_ tu ((hz.mono s7).mono s8)).append (ai_ (e6_ tu ?_) ao_);show Is H8 (.t ((bb++[(m:Int)]).map .i)) u;rw [AH];exact hu
    .rintro H6 ⟨s6,zs,hacc,hz⟩;have zl:zs.length=(x+1).toNat:=by rw [hz.length,A1,A1,BJ]
     have hlo6:=s6 _ _ hlo5;refine⟨lo,acc,lvs,zs,rfl,rfl,hlo6,hacc,AZ (au_ (by lia)),⟨_,rfl⟩,(s5.trans s6).put nloH,by rw [ak_ fl];exact s6 _ _ hfo5,(t5.trans (bD_.of_same s6)).trans (bD_.upd hlo6),_,ae_, ?_⟩;have tu:bD_ H6 (upd H6 lo (.lst (lvs++zs))):=bD_.upd hlo6;rw [AH];exact(ff_ tu (hl5.mono s6)).append (ff_ tu hz)
    .rintro σ H R R' k ⟨v1,e1,v2,e2,e3,h⟩;refine⟨v1,e1,v2,e2,e3,fun q H7 nq s7 hq=> ?_⟩;obtain⟨xs,ys,a1,a2,a3,a4⟩:=h q H7 nq s7 hq;exact⟨xs,ys,a1,a2,a3,fun u H8 s8 hu=>k _ _ (a4 u H8 s8 hu)⟩
   .rintro σ H5 ⟨⟨v4,rfl⟩,s5,hfo5,t5,lvs,hlo5,hl5⟩;rw [flen,AT] at hl5;exact⟨_,rfl,⟨lo,_,_,_,rfl,nloH,co_ hlo5 hl5⟩,s5⟩
  .rintro σ H3 ⟨⟨fo,v2,v3,v4,rfl,nfo,hfo⟩,s3⟩;rw [A1,AT] at hfo;exact⟨_,rfl,kk fo H3 s3 nfo hfo⟩
theorem qW_ {t:List Int}{p:Nat} (h:p<t.length):atI (t.map D.i) (p:Int)=some (.i (t.getD p 0)):=by
 refine qy_ (j:=p) rfl ?_;rw [A6,A3 h,A5,A3 h];rfl
theorem cR_:∀n:Nat,FnOk P w K mg base CX0 (n+2) T.f13 T.d13 ["row","weight","first"] (rD_ n K)
 |0=>⟨fun vs H Q E h=>(by obtain⟨_,_,_,_,_,_,_,_,h,_⟩:=h;lia),fun A outer s H args us vs Q E _ _ _ _ h=>(by obtain⟨_,_,_,_,_,_,_,_,h,_⟩:=h;lia)⟩
 |n+1=>by
  have ih:=cR_ n;refine T.X13.F.ok bn_ (fun vs H Q E h=> ?_) (fun cdv A outer s H vs Q E hr h=> ?_)
  .obtain⟨_,_,_,_,rfl,_⟩:=h;rfl
  .obtain⟨v,t,wt,fi,rfl,hv,tn,tl,hm,n8,b1,b2,b3,b4,f5,kk⟩:=h;refine⟨_,(ac_ (an_ (i:=3) bn_.nd rfl (by trivial) (aj_ aD_ (pv 1) (ah_ (cS_ T) (hr.mono (by lia)) (by rfl) T.X6.m T.X6.F.kp T.X6.B .nil ar_ (aa_ (pv 0) ab_))))
   (ac_ (a2_ (av_ cf_ (pv 3) ad_ (az_ _)) (af_ (ap_ (aw_ (aa_ (pv 0) ab_)))) ax_)
   (ac_ (an_ (i:=4) bn_.nd rfl (by trivial) (aw_ ab_))
   (ac_ (aJ_ AQ rfl (cy_ (by rfl) T.n_range (aa_ (pv 2) (aa_ (aE_ (lW_ rfl) (by rfl) T.n_min boot_min (aa_ (aE_ lX_ (by rfl) T.n_len boot_len (aa_ (pv 0) ab_)) (aa_ (pv 3) ab_))) ab_))) (am_ (i:=5) bn_.nd rfl (by trivial)) (af_ (aN_ (dF_ Ab C5 C4 cF_ (pv 4) (aa_ (ah_ ih hr (by rfl) T.X13.m T.X13.F.kp T.X13.B .nil ar_ (aa_ (ah_ (a6_ T) (hr.mono (by lia)) (by rfl) T.X9.m T.X9.F.kp T.X9.B .nil ar_ (aa_ (pv 0) (aa_ (pv 5) (aa_ ad_ ab_)))) (aa_ (pv 1) (aa_ (pv 5) ab_)))) ab_)))))
   (af_ (ap_ (pv 4))))))), ?_⟩
   refine⟨_,rfl,_,rfl,v,t,rfl,hv,tl,fun H1 s1=>⟨_,_,rfl,rfl, ?_⟩⟩;unfold rbF at kk;refine⟨_,rfl,rfl,_,rfl,gw_ (fun e=> ?_) (fun e=> ?_)⟩
   .rw [AA (show wt-wtF t=0 by lia)] at kk;refine⟨_,rfl,(by show 1<=sizeLine;decide),fun l H2 nl s2 hl=> ?_⟩;exact kk l H2 (s1.trans s2) (s1.free nl) (co_ hl (ai_ (hv.mono (s1.trans s2)) ao_))
   .have e:¬wt-wtF t=0:=by lia
    rw [A9 e] at kk;refine⟨AK _,fun fo H2 nfo s2 hfo=> ?_⟩;have s02:=s1.trans s2;have nfoH:H fo=none:=s1.free nfo;refine⟨_,rfl,_,rfl,_,_,rfl, .inr (hv.mono s02),_,rfl,_,_,rfl, ?_⟩;generalize hM:(if wt-wtF t<(((t.map D.i).length:Nat):Int) then wt-wtF t else(((t.map D.i).length:Nat):Int))=M;have eM:M<=5/\-2000<=M/\(M-(fi:Int)).toNat=min t.length (wt-wtF t).toNat-fi:=by
     rw [A1] at hM;subst hM;split<;>lia
    refine⟨_,_,rfl,⟨by lia,by lia,by lia,by lia⟩, ?_⟩;rw [eM.2.2];have len5:∀i,i<=5->((List.range i).flatMap fun j=>rbF n (wmF t (fi+j) 1) wt (fi+j)).length<=i*5^n:=by
     intro i;induction i with
     |zero=>intro _;exact AK _
     |succ i ih2=>
      intro hi;rw [B6,B5,AB,CA,BK,List.flatMap_nil,Ag];have:=ih2 (by lia);have:=kF_ (n:=n) (wt:=wt) (row:=wmF t (fi+i) 1) (first:=fi+i) (by rw [bx_];exact tl);lia
    have p5:5^n<=5^7:=C1 (by decide) (by lia);refine bt_ (lo:=(fi:Int)) (n:=min t.length (wt-wtF t).toNat-fi) (fun i σ H3=>(∃v5,σ=[some v,some (.int wt),some (.int fi),some (.int (wt-wtF t)),some (.ref fo),v5])/\al_ H H3/\∃zs,H3 fo=some (.lst zs)/\Iss H3 (((List.range i).flatMap fun j=>rbF n (wmF t (fi+j) 1) wt (fi+j)).map tI) zs) ⟨⟨none,rfl⟩,s02,[],hfo,ao_⟩ ?_ ?_
    .rintro i σ H3 hi ⟨⟨v5,rfl⟩,s3,zs,hfo3,hz⟩;have hp:fi+i<t.length:=by lia
     have ew:wtF (wmF t (fi+i) 1)=wtF t+(1+((fi+i:Nat):Int))*1:=gx_ hp;rw [show(fi:Int)+(i:Int)=((fi+i:Nat):Int) by lia];refine⟨_,rfl, .inl ⟨rfl,_,SqL.of hfo3⟩,_,rfl,_,rfl,v,t,fi+i,1,rfl,hv.mono s3,hp,tl,fun u H4 s4 hu=> ?_⟩;refine⟨_,rfl,_,rfl,u,wmF t (fi+i) 1,wt,fi+i,rfl,hu,jI_ hp tn (by have:=tn (fi+i);lia),by rw [bx_];exact tl,by rw [ew];lia,by lia,b1,b2,by rw [ew];lia,by rw [ew];lia,by lia,fun rl H5 s5 nrl hrl=> ?_⟩;obtain⟨_,rvs,e,hrl5,hri⟩:=b9_ hrl;cases e;have s35:=s4.trans s5;have hfo5:=s35 _ _ hfo3;have l1:=len5 (i+1) (by lia);have nx:((List.range (i+1)).flatMap fun j=>rbF n (wmF t (fi+j) 1) wt (fi+j))=((List.range i).flatMap fun j=>rbF n (wmF t (fi+j) 1) wt (fi+j))++rbF n (wmF t (fi+i) 1) wt (fi+i):=by
      rw [B6,B5,BK,List.flatMap_nil,Ag]
     rw [nx] at l1⊢;rw [AB] at l1;have l5:(i+1)*5^n<=5*5^7:=Nat.mul_le_mul (by lia) p5;have d5:5*5^7=390625:=by decide
     have zl:=hz.length;have rl':=hri.length;rw [A1] at zl rl';generalize ((List.range i).flatMap fun j=>rbF n (wmF t (fi+j) 1) wt (fi+j))=R at hz l1 zl;generalize rbF n (wmF t (fi+i) 1) wt (fi+i)=R2 at hri l1 rl';refine⟨fo,rl,zs,rvs,rfl,rfl,hfo5,hrl5,AZ (jM_ (by lia)),⟨_,rfl⟩,(s3.trans s35).put nfoH,_,ae_, ?_⟩;have tu:bD_ H5 (upd H5 fo (.lst (zs++rvs))):=bD_.upd hfo5;rw [AH];exact(ff_ tu (hz.mono s35)).append (ff_ tu hri)
    .rintro σ H3 ⟨⟨v5,rfl⟩,s3,zs,hfo3,hz⟩;exact⟨_,rfl,kk fo H3 s3 nfoH (co_ hfo3 hz)⟩
theorem nc_ {a b:List Int} (h:Le a b):∀{i:Nat}{x y:Int},b[i]? =some x->a[i]? =some y->hC_ (b.take (i+1)) (a.take (i+1))=hC_ (b.take i) (a.take i)*chF x y.toNat:=by
 induction a generalizing b with
 |nil=>intro i x y _ hy;simp at hy
 |cons z a ih=>
  cases b with
  |nil=>exact h.elim
  |cons u b=>
   intro i x y hx hy;cases i with
   |zero=>
    have e1:u=x:=by simpa using hx
    have e2:z=y:=by simpa using hy
    subst e1 e2;simp [hC_]
   |succ i=>
    rw [BY,BY,BY,BY];show chF u z.toNat*hC_ (b.take (i+1)) (a.take (i+1))=chF u z.toNat*hC_ (b.take i) (a.take i)*_;rw [ih h.2.2 (by simpa using hx) (by simpa using hy),Int.mul_assoc]
theorem qq_ {a b:List Int} (h:Le a b):∀{i:Nat}{x y:Int},b[i]? =some x->a[i]? =some y->0<=y/\y<=x:=by
 induction a generalizing b with
 |nil=>intro i x y _ hy;simp at hy
 |cons z a ih=>
  cases b with
  |nil=>exact h.elim
  |cons u b=>
   intro i x y hx hy;cases i with
   |zero=>
    have e1:u=x:=by simpa using hx
    have e2:z=y:=by simpa using hy
    subst e1 e2;exact⟨h.1,h.2.1⟩
   |succ i=>exact ih h.2.2 (by simpa using hx) (by simpa using hy)
theorem ht_ {b:List Int}{i:Nat}{x:Int} (h:Nn b) (hx:b[i]? =some x):x<=b.sum:=by
 induction b generalizing i with
 |nil=>simp at hx
 |cons y b ih=>
  obtain⟨p,q⟩:=Nn.cons.mp h;have s0:=(b2_ (i:=1) (by decide) q).1;rw [Ae];cases i with
  |zero=>
   have e1:y=x:=by simpa using hx
   lia
  |succ i=>
   have:=ih q (by simpa using hx);lia
theorem fn_:FnOk P w K mg base CX0 2 T.f14 T.d14 ["row","chosen"] (rP_ K):=by
 refine T.X14.F.ok b5_ (fun vs H Q E h=> ?_) (fun cdv A outer s H vs Q E hr h=> ?_)
 .obtain⟨_,_,_,_,rfl,_⟩:=h;rfl
 .obtain⟨v1,v2,b,a,rfl,hv1,hv2,le,bs,kk⟩:=h;refine⟨_,(ac_ (an_ (i:=2) b5_.nd rfl (by trivial) ad_)
   (ac_ (aJ_ AQ rfl (oy_ (by rfl) T.n_zip (aa_ (pv 0) (aa_ (pv 1) ab_))) (bM_ rfl (aq_ (am_ (i:=3) b5_.nd rfl (by trivial)) (aq_ (am_ (i:=4) b5_.nd rfl (by trivial)) a5_))) (af_ (fi_ (i:=2) b5_.nd rfl (by trivial) (ah_ (eE_ T) (hr.mono (by decide)) (by rfl) T.X4.m T.X4.F.kp T.X4.B .nil ar_ (aa_ (pv 3) (aa_ (pv 4) ab_))) ia_)))
   (af_ (ap_ (pv 2))))), ?_⟩
  obtain⟨ba,rfl,hb⟩:=cg_ hv1;obtain⟨aa,rfl,ha⟩:=cg_ hv2;have ll:=le.len;refine⟨_,rfl,_,rfl,ba,aa,rfl,⟨_,SqT.of hb⟩,⟨_,SqT.of ha⟩,m4_ (xs:=b.map V.int) (ys:=a.map V.int) (by rw [A1,A1,ll]) (fun i σ H2=>(∃v3 v4,σ=[some (.ref ba),some (.ref aa),some (.int (hC_ (b.take i) (a.take i))),v3,v4])/\al_ H H2) ⟨⟨none,none,rfl⟩,al_.refl _⟩ (fun i σ H2 _ h=>⟨SqT.of (h.2 _ _ hb),SqT.of (h.2 _ _ ha)⟩) ?_ ?_⟩
  .rintro i x y σ H2 p hx hy ⟨⟨v3,v4,rfl⟩,s2⟩ np;rw [A6] at hx hy;obtain⟨x,hx1,rfl⟩:=A8.mp hx;obtain⟨y,hy1,rfl⟩:=A8.mp hy;have hx:=hx1;have hy:=hy1;obtain⟨y0,yx⟩:=qq_ le hx hy;have x5:=ht_ (Le.nn le).2 hx;have s3:al_ H2 (upd H2 p (.tup [.int x, .int y])):=al_.new np;refine⟨p,_,rfl,SqT.of ae_,rfl,_,_,rfl,_,_,rfl,rfl, ?_⟩;obtain⟨c0,c1⟩:=nW_ y0 yx (by lia);have c2:(2:Int)^x.toNat<=2^5:=by
    have:x.toNat=0\/x.toNat=1\/x.toNat=2\/x.toNat=3\/x.toNat=4\/x.toNat=5:=by lia
    rcases this with e|e|e|e|e|e<;>rw [e]<;>decide
   have d5:(2:Int)^5=32:=by decide
   refine⟨_,rfl,_,rfl,_,rfl,x,y.toNat, ?_,by lia,by lia, ?_⟩
   .show [V.int x,V.int y]=[V.int x,V.int ((y.toNat:Nat):Int)];rw [show((y.toNat:Nat):Int)=y by lia]
   refine⟨_,_,rfl,rfl, .inr ⟨by lia,by lia⟩,⟨some (.int x),some (.int y), ?_⟩,s2.trans s3⟩;rw [nc_ le hx hy];rfl
  .rintro σ H2 ⟨⟨v3,v4,rfl⟩,s2⟩;rw [A1,AT,<-ll,AT];exact⟨_,rfl,kk H2 s2⟩
theorem ka_:∀{a b:List Int},Le a b->∀{k:Int}{i:Nat}{x y:Int},a[i]? =some x->b[i]? =some y->wgG k (a.take (i+1)) (b.take (i+1))=wgG k (a.take i) (b.take i)++List.replicate (y-x).toNat (k+i)
 |[],_,_,k,i,x,y,hx,_=>by simp at hx
 |z::a,[],h,_,_,_,_,_,_=>h.elim
 |z::a,u::b,h,k,i,x,y,hx,hy=>by
  cases i with
  |zero=>
   have e1:z=x:=by simpa using hx
   have e2:u=y:=by simpa using hy
   subst e1 e2;simp [wgG]
  |succ i=>
   rw [BY,BY,BY,BY];show _++wgG (k+1) (a.take (i+1)) (b.take (i+1))=_++wgG (k+1) (a.take i) (b.take i)++_;rw [ka_ h.2.2 (by simpa using hx) (by simpa using hy),B2,show k+1+(i:Int)=k+((i+1:Nat):Int) by lia]
theorem h7_:∀{a b:List Int} (i:Nat),Le a b->Le (a.take i) (b.take i)
 |[],[],i,_=>by rw [List.take_nil];exact trivial
 |x::a,y::b,0,_=>trivial
 |x::a,y::b,i+1,h=>⟨h.1,h.2.1,h7_ i h.2.2⟩
theorem dI_:FnOk P w K mg base CX0 1 T.f15 T.d15 ["row","fuller"] (rx_ K):=by
 refine T.X15.F.ok a9_ (fun vs H Q E h=> ?_) (fun cdv A outer s H vs Q E hr h=> ?_)
 .obtain⟨_,_,_,_,rfl,_⟩:=h;rfl
 .obtain⟨v1,v2,f,fr,rfl,hv1,hv2,le,fl5,fs5,kk⟩:=h;refine⟨_,(ac_ (an_ (i:=2) a9_.nd rfl (by trivial) (aw_ ab_))
   (ac_ (aJ_ AQ rfl (ec_ (by rfl) T.n_enumerate (pv 0)) (bM_ rfl (aq_ (am_ (i:=3) a9_.nd rfl (by trivial)) (aq_ (am_ (i:=4) a9_.nd rfl (by trivial)) a5_))) (af_ (aN_ (dF_ Ab C5 C4 cF_ (pv 2) (aa_ (aj_ c4_ (aw_ (aa_ (aj_ aF_ (pv 3) ad_) ab_)) (aj_ aD_ (a4_ aO_ (pv 1) (pv 3) (fun _ _=>rfl)) (pv 4))) ab_)))))
   (af_ (ap_ (pv 2))))), ?_⟩
  obtain⟨fa,rfl,hf⟩:=cg_ hv1;have ll:=le.len;refine⟨AK _,fun fo H1 nfo s1 hfo=> ?_⟩;refine⟨_,rfl,fa,rfl,⟨_,SqT.of (s1 _ _ hf)⟩,eT_ (xs:=f.map V.int) (fun i σ H2=>(∃v3 v4,σ=[some (.ref fa),some v2,some (.ref fo),v3,v4])/\al_ H H2/\H2 fo=some (.lst ((wgG 1 (f.take i) (fr.take i)).map V.int))) ⟨⟨none,none,rfl⟩,s1,hfo⟩ (fun i σ H2 _ h=>SqT.of (h.2.1 _ _ hf)) ?_ ?_⟩
  .rintro i y σ H2 p hi ⟨⟨v3,v4,rfl⟩,s2,hfo2⟩ np;rw [A6] at hi;obtain⟨x,hx,rfl⟩:=A8.mp hi;have il:i<f.length:=(AD.mp hx).1;have s3:al_ H2 (upd H2 p (.tup [.int i, .int x])):=al_.new np;have hy:fr[i]? =some (fr.getD i 0):=by
    rw [A5,A3 (by lia)];rfl
   obtain⟨x0,xy⟩:=qq_ le hy hx;have y5:=ht_ (Le.nn le).2 hy;have lb:(wgG 1 (f.take i) (fr.take i)).length<=1000:=by
    have l1:=kb_ (k:=1) (h7_ i le);have l2:=(b2_ (i:=1) (by decide) (Le.nn (h7_ i le)).1).1;have l3:(fr.take i).sum<=fr.sum:=by
     have e:(fr.take i).sum+(fr.drop i).sum=fr.sum:=by rw [<-Bi,List.take_append_drop]
     have nd:Nn (fr.drop i):=fun j=>by
      rw [A5,List.getElem?_drop];have:=(Le.nn le).2 (i+j);rwa [A5] at this
     have:=(b2_ (i:=1) (by decide) nd).1;lia
    lia
   refine⟨p,_,rfl,SqT.of ae_,rfl,_,_,rfl,_,_,rfl,rfl, ?_⟩;have hfo3:=s3 _ _ hfo2;have s03:=s2.trans s3;generalize upd H2 p (.tup [.int i, .int x])=H3 at s3 hfo3 s03;refine⟨_,rfl, .inl ⟨rfl,_,SqL.of hfo3⟩,_,rfl,_,_,rfl,rfl,(by show 1<=sizeLine;decide),fun l1 H4 n1 s4 h1=> ?_⟩;refine⟨_,rfl,_,rfl,fr.map .i,(i:Int),_,(hv2.mono s03).mono s4,rfl,qW_ (by lia),fun u hu=> ?_⟩;rw [c5_ hu];refine⟨_,rfl,_,_,rfl,rfl, .i ((i:Int)+1),_,co_ h1 (ai_ d1_ ao_),rfl,by lia,by lia,AZ (au_ (by lia)),fun l2 H5 n2 s5 h2=> ?_⟩;rw [<-CC] at h2;obtain⟨_,e,hl2⟩:=bO_ h2;cases e;have hfo5:=s5 _ _ (s4 _ _ hfo3);refine⟨fo,l2,_,_,rfl,rfl,hfo5,hl2,AZ (jM_ (by rw [A1,A1,BM];lia)),⟨_,_,rfl⟩,((s03.trans s4).trans s5).put nfo, ?_⟩;rw [ae_,ka_ le hx hy,AH,Int.add_comm 1 (i:Int)]
  .rintro σ H2 ⟨⟨v3,v4,rfl⟩,s2,hfo2⟩;rw [A1,AT,ll,AT] at hfo2;exact⟨_,rfl,kk fo H2 s2 nfo (bQ_ hfo2)⟩
theorem d4_:FnOk P w K mg base CX0 2 T.f16 T.d16 ["d","k","held","free"] (pO_ jS_):=by
 refine T.X16.F.ok aW_ (fun vs H Q E h=> ?_) (fun cdv A outer s H vs Q E hr h=> ?_)
 .obtain⟨_,_,_,_,rfl,_⟩:=h;rfl
 .obtain⟨v1,v2,q,L,rfl,hv1,hv2,aq,d2,kk⟩:=h;refine⟨_,(ac_ (an_ (i:=4) aW_.nd rfl (by trivial) (aw_ ab_))
   (ac_ (aJ_ AQ rfl (ec_ (by rfl) T.n_enumerate (pv 3)) (bM_ rfl (aq_ (am_ (i:=5) aW_.nd rfl (by trivial)) (aq_ (am_ (i:=6) aW_.nd rfl (by trivial)) a5_))) (af_ (a2_ (av_ jG_ (pv 6) ad_ (az_ _)) (ac_ (an_ (i:=7) aW_.nd rfl (by trivial) (aR_ (aa_ (pv 0) (aa_ (pv 1) (aa_ (ah_ (a6_ T) (hr.mono (by decide)) (by rfl) T.X9.m T.X9.F.kp T.X9.B .nil ar_ (aa_ (pv 2) (aa_ (pv 5) (aa_ ad_ ab_)))) (aa_ (ah_ (a6_ T) (hr.mono (by decide)) (by rfl) T.X9.m T.X9.F.kp T.X9.B .nil ar_ (aa_ (pv 3) (aa_ (pv 5) (aa_ (kR_ gA_ ad_) ab_)))) ab_))))))
   (af_ (aN_ (dF_ Ab BO BN bs_ (pv 4) (aa_ (aR_ (aa_ ad_ (aa_ (aw_ (aa_ (aj_ aF_ (pv 5) ad_) ab_)) (aa_ (pv 7) ab_)))) ab_))))) ax_)))
   (af_ (ap_ (pv 4))))), ?_⟩
  obtain⟨fa,rfl,hf⟩:=cg_ hv2;have hl:=aq.hl;have fl:=aq.fl;have L5:=aq.L5;refine⟨AK _,fun fo H1 nfo s1 hfo=> ?_⟩;refine⟨_,rfl,fa,rfl,⟨_,SqT.of (s1 _ _ hf)⟩,eT_ (xs:=q.f.map V.int) (fun i σ H2=>(∃v5 v6 v7,σ=[some (.int q.d),some (.int q.k),some v1,some (.ref fa),some (.ref fo),v5,v6,v7])/\al_ H H2/\Acc H H2 fo (((List.range i).flatMap (lz_ q)).map smD)/\((List.range i).flatMap (lz_ q)).length<=i) ⟨⟨none,none,none,rfl⟩,s1,Acc.start hfo,A7 _⟩ (fun i σ H2 _ h=>SqT.of (h.2.1 _ _ hf)) ?_ ?_⟩
  .rintro i y σ H2 p hi ⟨⟨v5,v6,v7,rfl⟩,s2,⟨zs,hfo2,hz⟩,pl⟩ np;rw [A6] at hi;obtain⟨x,hx,rfl⟩:=A8.mp hi;have il:i<q.f.length:=(AD.mp hx).1;have ex:q.f.getD i 0=x:=by rw [A5,hx];rfl
   have s3:al_ H2 (upd H2 p (.tup [.int i, .int x])):=al_.new np;have nx:(List.range (i+1)).flatMap (lz_ q)=(List.range i).flatMap (lz_ q)++lz_ q i:=by
    rw [B6,B5,BK,List.flatMap_nil,Ag]
   rw [nx];have zl:=hz.length;rw [A1] at zl;generalize (List.range i).flatMap (lz_ q)=R at hz pl zl;refine⟨p,_,rfl,SqT.of ae_,rfl,_,_,rfl,_,_,rfl,rfl, ?_⟩;generalize upd H2 p (.tup [.int i, .int x])=H3 at s3;have s03:=s2.trans s3;refine⟨_,rfl,_,_,rfl,rfl,_,rfl,ee_ (fun hg=> ?_) (fun hg=> ?_)⟩
   .have hg:x>0:=hg;unfold lz_;rw [ex,AA hg];refine⟨_,rfl,_,rfl,_,rfl,_,rfl,v1,q.h,i,1,rfl,hv1.mono s03,by lia,by lia,fun u1 H4 s4 hu1=> ?_⟩;refine⟨_,rfl,_,rfl,1,rfl, .ref fa,q.f,i,-1,rfl,(hv2.mono s03).mono s4,il,by lia,fun u2 H5 s5 hu2=>⟨(by show 4<=sizeLine;decide),fun t6 H6 n6 s6 h6=> ?_⟩⟩;have hq6:Is H6 (qD ⟨q.d,q.k,wmF q.h i 1,wmF q.f i (-1)⟩) (.ref t6):=fs_ h6 (ai_ d1_ (ai_ d1_ (ai_ ((hu1.mono s5).mono s6) (ai_ (hu2.mono s6) ao_))));have s26:=((s3.trans s4).trans s5).trans s6;refine⟨_,rfl, .inl ⟨rfl,_,SqL.of (s26 _ _ hfo2)⟩,_,rfl,_,_,rfl,rfl,(by show 1<=sizeLine;decide),fun l7 H7 n7 s7 h7=>⟨_,rfl,(by show 3<=sizeLine;decide),fun t8 H8 n8 s8 h8=> ?_⟩⟩;have s28:=(s26.trans s7).trans s8;refine⟨fo,zs,_,rfl,rfl,s28 _ _ hfo2,au_ (by lia),⟨_,_,_,rfl⟩,(s2.trans s28).put nfo, ?_,by rw [AB];show _+1<=_;lia⟩;rw [AH];refine Acc.add s2 s28 hfo2 hz ?_;refine fs_ (fo_ s28 h8) (ai_ d1_ (ai_ (nE_ (s26.free n7) (bQ_ (t:=[(i:Int)+1]) (s8 _ _ h7))) (ai_ (sm_ (mL_ s28) ((hq6.mono s7).mono s8)) ao_)))
   .have hg:¬x>0:=hg;unfold lz_;rw [ex,A9 hg,Ag];exact⟨⟨_,_,_,rfl⟩,s03,Acc.mono s3 ⟨zs,hfo2,hz⟩,by lia⟩
  .rintro σ H2 ⟨⟨v5,v6,v7,rfl⟩,s2,hacc,_⟩;rw [A1] at hacc;exact⟨_,rfl,kk fo H2 s2 nfo (hacc.is nfo)⟩
theorem qV_ {n:Nat} (h:n<=12600000):n<sizeLine:=by rw [As];lia
theorem lC_ {q:Ask4} (hl:q.f.length<=5):∀(F:List (List Int)),(F.flatMap (lE_ q)).length<=F.length*390625
 |[]=>AK _
 |x::F=>by
  rw [BK,AB,AL,CA];have h1:=lC_ hl F;have h2:=kF_ (n:=8) (wt:=q.d-1-wtF x) (row:=q.f) (first:=0) hl;have:(lE_ q x).length<=390625:=by unfold lE_;rw [A1];exact h2
  lia
theorem b6_:FnOk P w K mg base CX0 11 T.f17 T.d17 ["d","k","held","free"] (pO_ pr_):=by
 refine T.X17.F.ok aB_ (fun vs H Q E h=> ?_) (fun cdv A outer s H vs Q E hr h=> ?_)
 .obtain⟨_,_,_,_,rfl,_⟩:=h;rfl
 .obtain⟨v1,v2,q,L,rfl,hv1,hv2,aq,d2,kk⟩:=h;refine⟨_,(ac_ (an_ (i:=4) aB_.nd rfl (by trivial) (aw_ ab_))
   (ac_ (aJ_ AQ rfl (aQ_ (ah_ (fa_ T) (hr.mono (by decide)) (by rfl) T.X12.m T.X12.F.kp T.X12.B .nil ar_ (aa_ (pv 2) ab_))) (am_ (i:=5) aB_.nd rfl (by trivial)) (af_ (aJ_ AQ rfl (aQ_ (ah_ (cR_ T 8) (hr.mono (by decide)) (by rfl) T.X13.m T.X13.F.kp T.X13.B .nil ar_ (aa_ (pv 3) (aa_ (aj_ aD_ (aj_ aD_ (pv 0) ad_) (ah_ (cS_ T) (hr.mono (by decide)) (by rfl) T.X6.m T.X6.F.kp T.X6.B .nil ar_ (aa_ (pv 5) ab_))) (aa_ ad_ ab_))))) (am_ (i:=6) aB_.nd rfl (by trivial)) (ac_ (an_ (i:=7) aB_.nd rfl (by trivial) (aR_ (aa_ (aj_ aD_ (pv 0) ad_) (aa_ (aj_ aF_ (aj_ aD_ (aj_ aD_ (aj_ aF_ (pv 1) (aE_ (hk_ rfl) (by rfl) T.n_sum boot_sum (aa_ (pv 6) ab_))) (aE_ (hk_ rfl) (by rfl) T.n_sum boot_sum (aa_ (pv 3) ab_))) (pv 0)) ad_) (aa_ (pv 5) (aa_ (pv 6) ab_))))))
   (af_ (aN_ (dF_ Ab BO BN bs_ (pv 4) (aa_ (aR_ (aa_ (aj_ bl_ (ah_ (fn_ T) (hr.mono (by decide)) (by rfl) T.X14.m T.X14.F.kp T.X14.B .nil ar_ (aa_ (pv 2) (aa_ (pv 5) ab_))) (ah_ (fn_ T) (hr.mono (by decide)) (by rfl) T.X14.m T.X14.F.kp T.X14.B .nil ar_ (aa_ (pv 6) (aa_ (pv 3) ab_)))) (aa_ (ah_ (dI_ T) (hr.mono (by decide)) (by rfl) T.X15.m T.X15.F.kp T.X15.B .nil ar_ (aa_ (pv 3) (aa_ (pv 6) ab_))) (aa_ (pv 7) ab_)))) ab_))))))))
   (af_ (ap_ (pv 4))))), ?_⟩
  obtain⟨fa,rfl,hf⟩:=cg_ hv2;have hl:=aq.hl;have fl:=aq.fl;have L5:=aq.L5;have sm:=aq.sums;have dL:=aq.dL;have wq:=aq.wt;have wh:=bF_ (i:=1) (by decide) aq.hn;have wf:=bF_ (i:=1) (by decide) aq.fn;refine⟨AK _,fun fo H1 nfo s1 hfo=> ?_⟩;refine⟨_,rfl,v1,q.h,rfl,hv1.mono s1,aq.hn,by lia,by lia,fun kl H2 s2 nkl hkl=> ?_⟩;have s02:=s1.trans s2;obtain⟨_,kvs,e,hkl2,hki⟩:=b9_ hkl;cases e;have klen:kvs.length=(rwF q.h).length:=by rw [hki.length,A1]
  have k32:(rwF q.h).length<=32:=by have:=ky_ aq.hn (by lia) q.h.length;rwa [AT] at this
  have kfo:kl≠fo:=by rintro rfl;rw [hfo] at nkl;cases nkl
  unfold pr_ at kk;refine⟨kl,rfl,⟨_,SqL.of hkl2⟩,aL_ (xs:=kvs) (fun i σ H3=>(∃v5 v6 v7,σ=[some (.int q.d),some (.int q.k),some v1,some (.ref fa),some (.ref fo),v5,v6,v7])/\al_ H H3/\H3 kl=some (.lst kvs)/\bD_ H2 H3/\Acc H H3 fo ((((rwF q.h).take i).flatMap (lE_ q)).map smD)) ⟨⟨none,none,none,rfl⟩,s02,hkl2,bD_.of_same (al_.refl _),(Acc.start hfo).mono s2⟩ (fun i σ H3 _ h=>SqL.of h.2.2.1) ?_ ?_⟩
  .rintro i y σ H3 hi ⟨⟨v5,v6,v7,rfl⟩,s3,hkl3,t3,⟨zs,hfo3,hz⟩⟩;obtain⟨dd,hdd,hy⟩:=hki.of_get hi;rw [A6] at hdd;obtain⟨kp,hkp,rfl⟩:=A8.mp hdd;have il:i<(rwF q.h).length:=(AD.mp hkp).1;have kmem:=AS hkp;have lk:=kx_ aq.hn kmem;have wk0:=bF_ (i:=1) (by decide) (Le.nn lk).1;have wk1:=lk.wt (i:=1) (by decide);have nx:((rwF q.h).take (i+1)).flatMap (lE_ q)=((rwF q.h).take i).flatMap (lE_ q)++lE_ q kp:=by
    rw [AW,hkp,B5];simp
   have bnd:=lC_ (q:=q) (by lia) ((rwF q.h).take (i+1));rw [nx] at bnd⊢;rw [AB,Ad] at bnd;have zl:=hz.length;rw [A1] at zl;generalize ((rwF q.h).take i).flatMap (lE_ q)=R at hz bnd zl;have hy3:Is H3 (tI kp) y:=e6_ t3 hy;refine⟨_,rfl,_,rfl,_,_,rfl,rfl,_,rfl,y,kp,rfl,hy3,by have:=lk.len;lia,fun H4 s4=>⟨_,_,rfl,rfl, ?_⟩⟩;have s04:=s3.trans s4;unfold lE_ at bnd⊢;rw [A1] at bnd;have few:∀fr∈rbF 8 q.f (q.d-1-wtF kp) 0,AskOk L ⟨q.d-1,q.k+fr.sum-q.f.sum-q.d+1,kp,fr⟩/\6*(q.d-1)+fr.sum+1<=muF q/\Le kp q.h/\Le q.f fr/\fr.sum<=5:=fun fr hfr=>aq.few d2 kmem hfr;refine⟨.ref fa,q.f,q.d-1-wtF kp,0,rfl,hv2.mono s04,aq.fn,by lia,by unfold wtF at*;lia,by decide,by unfold wtF at*;lia,by unfold wtF at*;lia,by unfold wtF at*;lia,by unfold wtF at*;lia,by decide,fun rl H5 s5 nrl hrl=> ?_⟩;obtain⟨_,rvs,e,hrl5,hri⟩:=b9_ hrl;cases e;have rlen:rvs.length=(rbF 8 q.f (q.d-1-wtF kp) 0).length:=by rw [hri.length,A1]
   have s35:=s4.trans s5;have hfo5:=s35 _ _ hfo3;have rfo:rl≠fo:=by rintro rfl;rw [s4 _ _ hfo3] at nrl;cases nrl
   have rkl:kl≠rl:=by rintro rfl;rw [s4 _ _ hkl3] at nrl;cases nrl
   generalize rbF 8 q.f (q.d-1-wtF kp) 0=O at hri few rlen bnd;refine⟨rl,rfl,⟨_,SqL.of hrl5⟩,aL_ (xs:=rvs) (fun j σ H6=>(∃v6 v7,σ=[some (.int q.d),some (.int q.k),some v1,some (.ref fa),some (.ref fo),some y,v6,v7])/\al_ H H6/\H6 kl=some (.lst kvs)/\H6 rl=some (.lst rvs)/\bD_ H5 H6/\Acc H H6 fo ((R++(O.take j).map (ps_ q kp)).map smD)) ⟨⟨_,_,rfl⟩,s3.trans s35,s35 _ _ hkl3,hrl5,bD_.of_same (al_.refl _),by simpa using Acc.mono s35 ⟨zs,hfo3,hz⟩⟩ (fun j σ H6 _ h=>SqL.of h.2.2.2.1) ?_ ?_⟩
   .rintro j b σ H6 hj ⟨⟨v6,v7,rfl⟩,s6,hkl6,hrl6,t6,⟨ws,hfo6,hw⟩⟩;obtain⟨dd,hdd,hb⟩:=hri.of_get hj;rw [A6] at hdd;obtain⟨fr,hfr,rfl⟩:=A8.mp hdd;have jl:j<O.length:=(AD.mp hfr).1;obtain⟨f1,f2,f3,f4,f5⟩:=few fr (AS hfr);have hb6:Is H6 (tI fr) b:=e6_ t6 hb;have hy6:Is H6 (tI kp) y:=e6_ t6 (hy3.mono s35);have wl:=hw.length;rw [A1,AB,A1,Ad] at wl;have nx2:(O.take (j+1)).map (ps_ q kp)=(O.take j).map (ps_ q kp)++[ps_ q kp fr]:=by
     rw [AW,hfr,AH];rfl
    rw [nx2,<-B2,AH];obtain⟨ba,rfl,hba⟩:=cg_ hb6;refine⟨_,rfl,_,_,rfl,rfl,_,rfl,_,rfl,ba,fr,rfl,SqT.of hba,_,_,rfl,rfl,_,rfl,fa,q.f,rfl,SqT.of (s6 _ _ hf),_,_,rfl,rfl,_,rfl,_,_,rfl,rfl,_,_,rfl,rfl,_,rfl,_,rfl,(by show 4<=sizeLine;decide),fun t7 H7 n7 s7 h7=> ?_⟩;have hq7:Is H7 (qD ⟨q.d-1,q.k+fr.sum-q.f.sum-q.d+1,kp,fr⟩) (.ref t7):=fs_ h7 (ai_ d1_ (ai_ d1_ (ai_ (hy6.mono s7) (ai_ (hb6.mono s7) ao_))));have s07:=s6.trans s7;refine⟨_,rfl, .inl ⟨rfl,_,SqL.of (s7 _ _ hfo6)⟩,_,rfl,_,rfl,v1,y,q.h,kp,rfl,hv1.mono s07,hy6.mono s7,f3,by lia,fun H8 s8=> ?_⟩;refine⟨_,rfl,_,rfl, .ref ba, .ref fa,fr,q.f,rfl,(hb6.mono s7).mono s8,(hv2.mono s07).mono s8,f4,f5,fun H9 s9=> ?_⟩;have c1:=jm_ f3 (by lia);have c2:=jm_ f4 f5;refine⟨_,_,rfl,rfl, .inl ⟨by lia,by lia⟩,_,rfl,_,rfl, .ref fa, .ref ba,q.f,fr,rfl,((hv2.mono s07).mono s8).mono s9,((hb6.mono s7).mono s8).mono s9,f4,by have:=f4.len;lia,f5,fun l10 H10 s10 n10 h10=> ?_⟩;refine⟨_,rfl,(by show 3<=sizeLine;decide),fun t11 H11 n11 s11 h11=> ?_⟩;have s610:=((s7.trans s8).trans s9).trans s10;have s611:=s610.trans s11;have n10':H6 l10=none:=((s7.trans s8).trans s9).free n10;refine⟨fo,ws,_,rfl,rfl,s611 _ _ hfo6,qV_ (by lia),⟨_,_,rfl⟩,(s6.trans s611).put nfo,by rw [ak_ kfo];exact s611 _ _ hkl6,by rw [ak_ rfo];exact s611 _ _ hrl6,(t6.trans (bD_.of_same s611)).trans (bD_.upd (s611 _ _ hfo6)), ?_⟩;refine Acc.add s6 s611 hfo6 hw ?_;refine fs_ (fo_ s611 h11) (ai_ d1_ (ai_ (nE_ n10' (h10.mono s11)) (ai_ (sm_ (mL_ s611) ((((hq7.mono s8).mono s9).mono s10).mono s11)) ao_)))
   .rintro σ H6 ⟨⟨v6,v7,rfl⟩,s6,hkl6,hrl6,t6,hacc⟩;rw [rlen,AT] at hacc;exact⟨⟨_,_,_,rfl⟩,s6,hkl6,(t3.trans (bD_.of_same s35)).trans t6,hacc⟩
  .rintro σ H3 ⟨⟨v5,v6,v7,rfl⟩,s3,hkl3,t3,hacc⟩;rw [klen,AT] at hacc;exact⟨_,rfl,kk fo H3 s3 nfo (hacc.is nfo)⟩
theorem km_ {L:Nat}{q:Ask4} (a:AskOk L q):(jS_ q).length<=5/\(pr_ q).length<=12500000:=by
 have h5:=a.L5;have fl:=a.fl;have k32:(rwF q.h).length<=32:=by have:=ky_ a.hn a.sums.2.1 q.h.length;rwa [AT] at this
 refine⟨?_,Az (lC_ (by lia) _) (by lia)⟩;unfold jS_;refine Az (eU_ (m:=1) fun p _=> ?_) (by rw [BJ];lia);unfold lz_;split<;>simp
theorem hY_:FnOk P w K mg base CX0 12 T.f18 T.d18 ["asked"] (rz_ K):=by
 refine T.X18.F.ok bG_ (fun vs H Q E h=> ?_) (fun cdv A outer s H vs Q E hr h=> ?_)
 .obtain⟨_,_,_,rfl,_⟩:=h;rfl
 .obtain⟨v,q,L,rfl,hv,aq,d2,kk⟩:=h;refine⟨_,(ac_ (an_ (i:=1) bG_.nd rfl (by trivial) (a4_ aO_ (pv 0) ad_ (fun _ _=>rfl)))
   (ac_ (an_ (i:=2) bG_.nd rfl (by trivial) (a4_ aO_ (pv 0) ad_ (fun _ _=>rfl)))
   (ac_ (an_ (i:=3) bG_.nd rfl (by trivial) (a4_ aO_ (pv 0) ad_ (fun _ _=>rfl)))
   (ac_ (an_ (i:=4) bG_.nd rfl (by trivial) (a4_ aO_ (pv 0) ad_ (fun _ _=>rfl)))
   (af_ (ap_ (aj_ dV_ (ah_ (d4_ T) (hr.mono (by decide)) (by rfl) T.X16.m T.X16.F.kp T.X16.B .nil ar_ (aa_ (pv 1) (aa_ (pv 2) (aa_ (pv 3) (aa_ (pv 4) ab_))))) (ah_ (b6_ T) (hr.mono (by decide)) (by rfl) T.X17.m T.X17.F.kp T.X17.B .nil ar_ (aa_ (pv 1) (aa_ (pv 2) (aa_ (pv 3) (aa_ (pv 4) ab_)))))))))))), ?_⟩
  refine⟨_,rfl,_,0,_,hv,rfl,rfl,fun u1 k1=> ?_⟩;rw [c5_ k1];refine⟨_,rfl,_,1,_,hv,rfl,rfl,fun u2 k2=> ?_⟩;rw [c5_ k2];refine⟨_,rfl,_,2,_,hv,rfl,rfl,fun u3 k3=> ?_⟩;refine⟨_,rfl,_,3,_,hv,rfl,rfl,fun u4 k4=> ?_⟩;refine⟨_,rfl,_,rfl,_,rfl,_,rfl,u3,u4,q,L,rfl,k3,k4,aq,d2,fun l1 H1 s1 n1 h1=> ?_⟩;refine⟨_,rfl,_,rfl,_,rfl,_,rfl,u3,u4,q,L,rfl,k3.mono s1,k4.mono s1,aq,d2,fun l2 H2 s2 n2 h2=> ?_⟩;obtain⟨_,xs,e,g1,i1⟩:=b9_ h1;cases e;obtain⟨_,zs,e,g2,i2⟩:=b9_ h2;cases e;have hl1:H2 l1=some (.lst xs):=s2 _ _ (a7_ _ _ g1);have hl2:H2 l2=some (.lst zs):=a7_ _ _ g2;have sl:=km_ aq;have xl:=i1.length;have zl:=i2.length;rw [A1] at xl zl;refine⟨l1,l2,xs,zs,rfl,rfl,hl1,hl2,AZ (qV_ (by lia)),fun p np=> ?_⟩;have s3:al_ H2 (upd H2 p (.lst (xs++zs))):=al_.new np;have hp:upd H2 p (.lst (xs++zs)) p=some (.lst (xs++zs)):=ae_;generalize upd H2 p (.lst (xs++zs))=H3 at s3 hp;have npH:H p=none:=(s1.trans s2).free np;refine kk p H3 ((s1.trans s2).trans s3) npH (co_ (by rw [cm_ npH];exact hp) ?_);unfold e7_;rw [AH];exact(i1.mono (dJ_ (s2.trans s3))).append ((i2.mono (fW_ s1)).mono (dJ_ s3))
theorem fm_:∀n:Nat,FnOk P w K mg base CX0 (n+13) T.f19 T.d19 ["asked","known"] (rO_ P w n)
 |0=>⟨fun vs H Q E h=>(by obtain⟨_,_,_,_,_,_,_,a,h,_⟩:=h;have:=a.mu;lia),fun A outer s H args us vs Q E _ _ _ _ h=>(by obtain⟨_,_,_,_,_,_,_,a,h,_⟩:=h;have:=a.mu;lia)⟩
 |n+1=>by
  have ih:=fm_ n;refine T.X19.F.ok bE_ (fun vs H Q E h=> ?_) (fun cdv A outer s H vs Q E hr h=> ?_)
  .obtain⟨_,_,_,_,_,rfl,_⟩:=h;rfl
  .obtain⟨v,kn,q,L,R,rfl,hv,aq,hn,hD,hK,kk⟩:=h;refine⟨_,(ac_ (a2_ (av_ hV_ (a4_ aO_ (pv 0) ad_ (fun _ _=>rfl)) ad_ (az_ _)) (af_ (ap_ ad_)) ax_)
   (ac_ (a2_ (av_ cf_ (a4_ aO_ (pv 0) ad_ (fun _ _=>rfl)) ad_ (az_ _)) (af_ (ap_ (iJ_ (av_ cf_ (a4_ aO_ (pv 0) ad_ (fun _ _=>rfl)) ad_ (az_ _)) ad_ ad_))) ax_)
   (ac_ (a2_ (p1_ (kU_ (lv_ hr) (pv 0) (pv 1)) rfl) (ac_ (an_ (i:=2) bE_.nd rfl (by trivial) ad_)
   (ac_ (aJ_ AQ rfl (aQ_ (ah_ (hY_ T) (hr.mono (by lia)) (by rfl) T.X18.m T.X18.F.kp T.X18.B .nil ar_ (aa_ (pv 0) ab_))) (bM_ rfl (aq_ (am_ (i:=3) bE_.nd rfl (by trivial)) (aq_ (am_ (i:=4) bE_.nd rfl (by trivial)) (aq_ (am_ (i:=5) bE_.nd rfl (by trivial)) a5_)))) (af_ (fi_ (i:=2) bE_.nd rfl (by trivial) (aj_ bl_ (aj_ bl_ (pv 3) (ah_ (do_ T) (hr.mono (by lia)) (by rfl) T.X10.m T.X10.F.kp T.X10.B .nil ar_ (aa_ (pv 4) ab_))) (ah_ ih hr (by rfl) T.X19.m T.X19.F.kp T.X19.B .nil ar_ (aa_ (pv 5) (aa_ (pv 1) ab_)))) i5_)))
   (af_ (ov_ (lv_ hr) (pv 1) (pv 0) (pv 2) rfl)))) ax_)
   (af_ (ap_ (oE_ (lv_ hr) (pv 1) (pv 0) (fun _ _=>rfl))))))), ?_⟩
   refine⟨_,rfl,_,1,_,hv,rfl,rfl,fun u1 k1=> ?_⟩;rw [c5_ k1];refine⟨_,_,rfl,rfl,_,rfl,ee_ (fun hz=> ?_) (fun hz=> ?_)⟩
   .have hz:q.k<0:=hz;rw [qT_ hz] at kk;exact kk R H (But.of_same (al_.refl _)) hD hK
   have hz:¬q.k<0:=hz;refine⟨_,rfl,_,0,_,hv,rfl,rfl,fun u2 k2=> ?_⟩;rw [c5_ k2];refine⟨rfl,_,rfl,gw_ (fun h1=> ?_) (fun h1=> ?_)⟩
   .rw [qS_ hz h1] at kk;refine⟨_,rfl,_,1,_,hv,rfl,rfl,fun u3 k3=> ?_⟩;rw [c5_ k3];refine⟨rfl,_,rfl,gw_ (fun h2=> ?_) (fun h2=> ?_)⟩
    .rw [AA h2] at kk;exact kk R H (But.of_same (al_.refl _)) hD hK
    .rw [A9 h2] at kk;exact kk R H (But.of_same (al_.refl _)) hD hK
   have d2:2<=q.d:=by have:=aq.d1;lia
   have hk:=o0_ hv;refine⟨_,rfl,_,rfl,kn,tK R,kq q,rfl,hD,hk,_,rfl, ?_⟩;rw [ix_];by_cases hin:kq q∈R.map (·.1)
   .rw [AA hin];exact dQ_ ⟨_,rfl,_,rfl,kn,tK R,kq q, .int (cF q),rfl,hD,hk,by rw [ix_,AA hin,hK.get hin],kk R H (But.of_same (al_.refl _)) hD hK⟩
   .rw [A9 hin];refine d0_ ?_;refine⟨_,rfl,v,q,L,rfl,hv,aq,d2,fun l0 H2 s2 nl0 hl0=> ?_⟩;have hS:∀x∈e7_ q,AskOk L x.2.2/\muF x.2.2+1<=muF q/\(0<=x.1/\x.1<=1024)/\(∀w∈x.2.1,1<=w/\w<=5)/\x.2.1.length<=5:=fun x hx=>⟨(aq.less d2 hx).1,(aq.less d2 hx).2,mo_ aq d2 hx⟩;have hW:=qR_ aq hz h1;generalize e7_ q=S at hS hW hl0;obtain⟨_,lvs,e,hl0',hli'⟩:=b9_ hl0;cases e;have hl2:H2 l0=some (.lst lvs):=a7_ _ _ hl0';have hli:Iss H2 (S.map smD) lvs:=hli'.mono a7_;have llen:lvs.length=S.length:=by rw [hli.length,A1]
    have hD2:=hD.mono s2;have l0kn:l0≠kn:=by
     obtain⟨_,_,xs,_,e⟩:=hD;rintro rfl;rw [e] at nl0;cases nl0
    refine⟨l0,rfl,⟨_,SqL.of hl2⟩,aL_ (xs:=lvs) (fun i σ H3=>(∃v3 v4 v5,σ=[some v,some (.ref kn),some (.int (((S.take i).map fun x=>x.1*gv_ x.2.1*cF x.2.2).sum)),v3,v4,v5])/\But kn H2 H3/\∃R',DM P w H3 kn (tK R')/\KnQ L R') ⟨⟨none,none,none,rfl⟩,But.of_same (al_.refl _),R,hD2,hK⟩ (fun i σ H3 _ h=>SqL.of (h.2.1 _ _ hl2 l0kn)) ?_ ?_⟩
    .rintro i y σ H3 hi ⟨⟨v3,v4,v5,rfl⟩,but3,R3,hD3,hK3⟩;obtain⟨dd,hdd,hy⟩:=hli.of_get hi;rw [A6] at hdd;obtain⟨x,hx',rfl⟩:=A8.mp hdd;obtain⟨x1,x2,x3,x4,x5⟩:=hS x (AS hx');have hx3:Is H3 (smD x) y:=hy.lts (f3_ hD2 but3);obtain⟨t,tvs,rfl,ht,hti⟩:=fV_ hx3;obtain⟨u1,us,rfl,hu1,hti⟩:=aA_ hti;obtain⟨u2,us,rfl,hu2,hti⟩:=aA_ hti;obtain⟨u3,us,rfl,hu3,hti⟩:=aA_ hti;rw [bh_ hti,c5_ hu1] at ht;obtain⟨p0,p1⟩:=hR_ x4;have p2:(5:Int)^x.2.1.length<=3125:=by
      have:x.2.1.length=0\/x.2.1.length=1\/x.2.1.length=2\/x.2.1.length=3\/x.2.1.length=4\/x.2.1.length=5:=by lia
      rcases this with e|e|e|e|e|e<;>rw [e]<;>decide
     have m0:=Bf x3.1 p0;have m1:=C8 x3.2 (Int.le_trans p1 p2) p0 (by decide);refine⟨t,_,rfl,SqT.of ht,rfl,_,_,rfl,_,_,rfl,_,_,rfl,rfl, ?_⟩;refine⟨_,rfl,_,rfl,_,rfl,u2,x.2.1,rfl,hu2,x4,_,_,rfl,rfl, .inl ⟨by lia,by lia⟩,_,rfl,_,rfl,u3,kn,x.2.2,L,R3,rfl,hu3,x1,by lia,hD3,hK3,fun R4 H4 but4 hD4 hK4=> ?_⟩;refine⟨_,_,rfl,rfl, .inl ⟨by lia,by lia⟩,_,_,rfl,rfl,⟨some (.int x.1),some u2,some u3, ?_⟩,but3.trans but4,R4,hD4,hK4⟩;rw [AW,hx',AH,Bi];simp
    .rintro σ H3 ⟨⟨v3,v4,v5,rfl⟩,but3,R3,hD3,hK3⟩;rw [llen,AT,<-hW];have but03:But kn H H3:=(But.of_same s2).trans but3;have hv3:Is H3 (qD q) v:=(hv.mono s2).lts (f3_ hD2 but3);have hl3:=hK3.len aq.L5;refine⟨_,rfl,_,rfl,_,rfl,kn,tK R3,kq q,rfl,hD3,o0_ hv3,by rw [pC_,As];lia,fun H4 hD4 k4=> ?_⟩;rw [np_ hK3.1] at hD4;have but4:But kn H3 H4:=fun c o e n=>by rw [k4 c n];exact e
     have hv4:=hv3.lts (f3_ hD3 but4);obtain⟨g1,g2⟩:=i9_ (k:=kq q) (v:=cF q) (R:=R3);exact⟨_,rfl,_,rfl,kn,_,kq q, .int (cF q),rfl,hD4,o0_ hv4,by rw [ix_,AA g2,g1],kk _ H4 (but03.trans but4) hD4 (hK3.put aq (by lia))⟩
theorem nC_ {a:List Int}{n:Nat} (h:Nn a) (hl:a.length<=n):(hB_ n a).length=n/\Nn (hB_ n a)/\wtF (hB_ n a)=wtF a:=by
 have nr:∀(m:Nat) {t:List Int},Nn t->Nn (t++List.replicate m 0):=fun m=>by
  induction m with
  |zero=>intro t h;simpa using h
  |succ m ih=>intro t h;rw [List.replicate_succ',<-B2];exact fY_ (ih h) (by decide)
 refine⟨?_,nr _ h,j7_⟩;unfold hB_;rw [AB,BM];lia
theorem qY_ {d k:Nat}{a b:List Int} (hw:Wide d k) (ra:e2_ a) (rb:e2_ b) (e:wtF a+wtF b=d) (la:a.length<=d) (lb:b.length<=d):AskOk d ⟨d,k,hB_ d a,hB_ d b⟩:=by
 obtain⟨a1,a2,a3⟩:=nC_ ra.1 la;obtain⟨b1,b2,b3⟩:=nC_ rb.1 lb;unfold Wide at hw;exact⟨a1,b1,a2,b2,by rw [a3,b3];exact e,by show(1:Int)<=(d:Int);lia,CL _,by lia,by show(k:Int)<=6;lia⟩
theorem h1_:FnOk P w K mg base (CX1 P w) 4 T.f20 T.d20 ["d","k","held","free"] (rR_ T.c_NoBound T.c_NoEnds):=by
 refine T.X20.F.okx hN_ (fun vs H Q E h=> ?_) (fun cdv A outer s H vs Q E hr h hR hp=> ?_)
 .obtain⟨_,_,_,_,rfl,_⟩:=h;rfl
 .obtain⟨v,u,r1,r2,rfl,h⟩:=h;refine⟨_,(ac_ (aN_ (ah_ (cA_ T) (hr.mono (by decide)) (by rfl) T.X2.m T.X2.F.kp T.X2.B .nil hp (aa_ (pv 0) (aa_ (pv 1) ab_))))
   (ac_ (aN_ (ah_ (dW_ T) (hr.mono (by decide)) (by rfl) T.X7.m T.X7.F.kp T.X7.B .nil hp (aa_ (pv 0) (aa_ (pv 2) (aa_ (pv 3) ab_)))))
   (af_ (ap_ (aR_ (aa_ (pv 0) (aa_ (pv 1) (aa_ (ah_ (dX_ T) (hr.mono (by decide)) (by rfl) T.X11.m T.X11.F.kp T.X11.B .nil ar_ (aa_ (pv 2) (aa_ (pv 0) ab_))) (aa_ (ah_ (dX_ T) (hr.mono (by decide)) (by rfl) T.X11.m T.X11.F.kp T.X11.B .nil ar_ (aa_ (pv 3) (aa_ (pv 0) ab_))) ab_))))))))), ?_⟩
  rcases h with⟨d,k,a,b,rfl,rfl,hW,h1,h2,ra,rb,e,la,lb,kk⟩|⟨tv,tu,hn,ke⟩|⟨d,k,rfl,rfl,hW,bad,ke⟩
  .have d5:d<=5:=by have:=hW.2.1;lia
   refine⟨_,rfl,_,rfl, .int d, .int k,rfl,be_.int,be_.int,fun _=> ?_,fun h=>absurd ⟨d,k,rfl,rfl,hW.wide⟩ h⟩;refine⟨_,rfl,_,rfl,_,rfl,d,r1,r2,rfl, .inl ⟨a,b,h1,h2,ra,rb,e,fun H1 s1=> ?_⟩⟩;refine⟨_,rfl,_,rfl,_,rfl,_,rfl,r1,a,d,rfl,h1.mono s1,la,d5,fun u1 H2 s2 hu1=> ?_⟩;refine⟨_,rfl,_,rfl,r2,b,d,rfl,(h2.mono s1).mono s2,lb,d5,fun u2 H3 s3 hu2=> ?_⟩;refine⟨(by show 4<=sizeLine;decide),fun t H4 nt s4 ht=>kk _ H4 (((s1.trans s2).trans s3).trans s4) ?_⟩;exact fs_ ht (ai_ d1_ (ai_ d1_ (ai_ ((hu1.mono s3).mono s4) (ai_ (hu2.mono s4) ao_))))
  .exact⟨_,rfl,_,rfl,v,u,rfl,tv,tu,fun h=>absurd h hn,fun _=>ke⟩
  .exact⟨_,rfl,_,rfl, .int d, .int k,rfl,be_.int,be_.int,fun _=>⟨_,rfl,_,rfl,_,rfl,d,r1,r2,rfl, .inr ⟨bad,ke⟩⟩,fun h=>absurd ⟨d,k,rfl,rfl,hW⟩ h⟩
theorem jH_:FnOk P w K mg base (CX1 P w) 54 T.f21 T.d21 ["d","k","held","free"] (om_ T.c_NoBound T.c_NoEnds):=by
 refine T.X21.F.okx jB_ (fun vs H Q E h=> ?_) (fun cdv A outer s H vs Q E hr h hR hp=> ?_)
 .obtain⟨_,_,_,_,rfl,_⟩:=h;rfl
 .obtain⟨v,u,r1,r2,rfl,h⟩:=h;refine⟨_,(af_ (ap_ (ah_ (fm_ T 40) (hr.mono (by decide)) (by rfl) T.X19.m T.X19.F.kp T.X19.B .nil ar_ (aa_ (ah_ (h1_ T) (hr.mono (by decide)) (by rfl) T.X20.m T.X20.F.kp T.X20.B .nil hp (aa_ (pv 0) (aa_ (pv 1) (aa_ (pv 2) (aa_ (pv 3) ab_))))) (aa_ oD_ ab_))))), ?_⟩;rcases h with⟨d,k,a,b,rfl,rfl,hW,h1,h2,ra,rb,e,la,lb,kk⟩|h|h
  .have aq:=qY_ hW.wide ra rb e la lb;refine⟨_,rfl,_,rfl,_,rfl,_,rfl, .int d, .int k,r1,r2,rfl, .inl ⟨d,k,a,b,rfl,rfl,hW,h1,h2,ra,rb,e,la,lb,fun y H1 s1 hu=> ?_⟩⟩;intro kn H2 nkn hD k2;have s2:al_ H1 H2:=fun b o e=>by rw [k2 b (by rintro rfl;rw [nkn] at e;cases e)];exact e
   have nknH:H kn=none:=s1.free nkn;refine⟨y,kn,_,d,[],rfl,hu.mono s2,aq,by have:=aq.mu;lia,hD,⟨by simp,fun x hx=>nomatch hx⟩,fun R' H3 but3 hD3 hK3=>kk _ H3 ?_⟩;exact But.same (s1.trans s2) nknH but3
  .exact⟨_,rfl,_,rfl,_,rfl,_,rfl,v,u,r1,r2,rfl, .inr (.inl h)⟩
  .exact⟨_,rfl,_,rfl,_,rfl,_,rfl,v,u,r1,r2,rfl, .inr (.inr h)⟩
theorem dm_:FnOk P w K mg base CX0 1 T.f8 T.d8 ["row"] (rv_ K):=by
 refine T.X8.F.ok by_ (fun vs H Q E h=> ?_) (fun cdv A outer s H vs Q E hr h=> ?_)
 .obtain⟨_,_,rfl,_⟩:=h;rfl
 .obtain⟨v,t,rfl,hv,nn,tl,kk⟩:=h;refine⟨_,(ac_ (an_ (i:=1) by_.nd rfl (by trivial) (aw_ ab_))
   (ac_ (aJ_ AQ rfl (hS_ (by rfl) T.n_enumerate (pv 0)) (bM_ rfl (aq_ (am_ (i:=2) by_.nd rfl (by trivial)) (aq_ (am_ (i:=3) by_.nd rfl (by trivial)) a5_))) (af_ (aN_ (dF_ Ab C5 C4 cF_ (pv 1) (aa_ (aj_ c4_ (aw_ (aa_ (aj_ aF_ (pv 2) ad_) ab_)) (pv 3)) ab_)))))
   (af_ (ap_ (pv 1))))), ?_⟩
  obtain⟨a,rfl,ha⟩:=bO_ hv;refine⟨AK _,fun fo H1 nfo s1 hfo=> ?_⟩;refine⟨_,rfl,a,rfl,⟨_,SqL.of (s1 _ _ ha)⟩,jc_ (xs:=t.map V.int) (fun i σ H2=>(∃v3 v4,σ=[some (.ref a),some (.ref fo),v3,v4])/\al_ H H2/\H2 fo=some (.lst (((List.range i).flatMap (md_ t)).map V.int))) ⟨⟨none,none,rfl⟩,s1,hfo⟩ (fun i σ H2 _ h=>SqL.of (h.2.1 _ _ ha)) ?_ ?_⟩
  .rintro i y σ H2 p hi ⟨⟨v3,v4,rfl⟩,s2,hfo2⟩ np;rw [A6] at hi;obtain⟨x,hx,rfl⟩:=A8.mp hi;have il:i<t.length:=(AD.mp hx).1;have s3:al_ H2 (upd H2 p (.tup [.int i, .int x])):=al_.new np;have ex:t.getD i 0=x:=by rw [A5,hx];rfl
   have x0:=nn i;rw [ex] at x0;have pl:=eu_ (md_ t) il;have e:md_ t i=List.replicate x.toNat ((i:Int)+1):=by unfold md_;rw [ex]
   unfold hF_ at tl;rw [e,BM] at pl;refine⟨p,_,rfl,SqT.of ae_,rfl,_,_,rfl,_,_,rfl,rfl, ?_⟩;have hfo3:=s3 _ _ hfo2;have s03:=s2.trans s3;generalize upd H2 p (.tup [.int i, .int x])=H3 at s3 hfo3 s03;refine⟨_,rfl, .inl ⟨rfl,_,SqL.of hfo3⟩,_,rfl,_,_,rfl,rfl,(by show 1<=sizeLine;decide),fun l1 H4 n1 s4 h1=> ?_⟩;refine⟨_,rfl, .i ((i:Int)+1),_,co_ h1 (ai_ d1_ ao_),rfl,by lia,by lia,AZ (au_ (by lia)),fun l2 H5 n2 s5 h2=> ?_⟩;rw [<-CC] at h2;obtain⟨_,e,hl2⟩:=bO_ h2;cases e;have hfo5:=s5 _ _ (s4 _ _ hfo3);refine⟨fo,l2,_,_,rfl,rfl,hfo5,hl2,AZ (jM_ (by rw [A1,A1,BM];lia)),⟨_,_,rfl⟩,((s03.trans s4).trans s5).put nfo, ?_⟩;rw [ae_,bu_,AH,e]
  .rintro σ H2 ⟨⟨v3,v4,rfl⟩,s2,hfo2⟩;rw [A1] at hfo2;exact⟨_,rfl,kk fo H2 s2 nfo (bQ_ hfo2)⟩
theorem ck_:∀n:Nat,FnOk P w K mg base CX0 (n+2) T.f32 T.d32 ["room","weights"] (sN_ n K)
 |0=>⟨fun vs H Q E h=>(by obtain⟨_,_,_,_,_,_,_,_,h,_⟩:=h;exact absurd h (CT _)),fun A outer s H args us vs Q E _ _ _ _ h=>(by obtain⟨_,_,_,_,_,_,_,_,h,_⟩:=h;exact absurd h (CT _))⟩
 |n+1=>by
  have ih:=ck_ n;refine T.X32.F.ok aX_ (fun vs H Q E h=> ?_) (fun cdv A outer s H vs Q E hr h=> ?_)
  .obtain⟨_,_,_,_,rfl,_⟩:=h;rfl
  .obtain⟨v,u,room,ws,rfl,hv,hu,rl5,wn,n7,kk⟩:=h;refine⟨_,(ac_ (a2_ (cQ_ (iF_ (pv 1) (fun _=>rfl))) (af_ (ap_ ad_)) ax_)
   (ac_ (an_ (i:=2) aX_.nd rfl (by trivial) ad_)
   (ac_ (aJ_ AQ rfl (ec_ (by rfl) T.n_enumerate (pv 0)) (bM_ rfl (aq_ (am_ (i:=3) aX_.nd rfl (by trivial)) (aq_ (am_ (i:=4) aX_.nd rfl (by trivial)) a5_))) (af_ (a2_ (av_ kZ_ (pv 4) (a4_ bc_ (pv 1) ad_ (fun _ _=>rfl)) (az_ _)) (af_ (fi_ (i:=2) aX_.nd rfl (by trivial) (ah_ ih hr (by rfl) T.X32.m T.X32.F.kp T.X32.B .nil ar_ (aa_ (ah_ (a6_ T) (hr.mono (by lia)) (by rfl) T.X9.m T.X9.F.kp T.X9.B .nil ar_ (aa_ (pv 0) (aa_ (pv 3) (aa_ (kR_ gA_ (a4_ bc_ (pv 1) ad_ (fun _ _=>rfl))) ab_)))) (aa_ (bo_ cp_ (pv 1) (bL_ ad_) ce_) ab_))) i5_)) ax_)))
   (af_ (ap_ (pv 2)))))), ?_⟩
   obtain⟨wa,rfl,hwa⟩:=bO_ hu;cases ws with
   |nil=>exact⟨_,rfl,false, .inl ⟨[],SqL.of hwa,rfl⟩,d0_ (kk H (al_.refl _))⟩
   |cons w ws=>
    refine⟨_,rfl,true, .inl ⟨_,SqL.of hwa,rfl⟩,dQ_ ?_⟩;obtain⟨ra,rfl,hra⟩:=cg_ hv;rw [ly_] at kk;refine⟨_,rfl,ra,rfl,⟨_,SqT.of hra⟩,eT_ (xs:=room.map V.int) (fun i σ H2=>(∃v3 v4,σ=[some (.ref ra),some (.ref wa),some (.int ((List.range i).map (hh1 w ws room)).sum),v3,v4])/\al_ H H2) ⟨⟨none,none,rfl⟩,al_.refl _⟩ (fun i σ H2 _ h=>SqT.of (h.2 _ _ hra)) ?_ ?_⟩
    .rintro i y σ H2 p hi ⟨⟨v3,v4,rfl⟩,s2⟩ np;rw [A6] at hi;obtain⟨x,hx,rfl⟩:=A8.mp hi;have il:i<room.length:=(AD.mp hx).1;have ex:room.getD i 0=x:=by rw [A5,hx];rfl
     have s3:al_ H2 (upd H2 p (.tup [.int i, .int x])):=al_.new np;have e1:((List.range (i+1)).map (hh1 w ws room)).sum=((List.range i).map (hh1 w ws room)).sum+hh1 w ws room i:=by
      rw [B6,AH,Bi];simp
     rw [e1];refine⟨p,_,rfl,SqT.of ae_,rfl,_,_,rfl,_,_,rfl,rfl, ?_⟩;have s03:=s2.trans s3;generalize upd H2 p (.tup [.int i, .int x])=H3 at s3 s03;have hw3:=s03 _ _ hwa;refine⟨_,rfl,_,rfl,wa,_,_,_,rfl,rfl,SqL.of hw3,at0,_,_,rfl,rfl,_,rfl,ee_ (fun c=> ?_) (fun c=> ?_)⟩
     .have eh:hh1 w ws room i=hhF ws (wmF room i (-w)):=by unfold hh1;rw [ex];exact AA c
      rw [eh];refine⟨_,rfl,_,rfl,_,rfl,_,rfl,wa,_,_,_,rfl,rfl,SqL.of hw3,at0,_,rfl, .ref ra,room,i,-w,rfl,hv.mono s03,il,rl5,fun u1 H4 s4 hu1=> ?_⟩;refine⟨_,rfl,1,rfl,wa,_,rfl,SqL.of (s4 _ _ hw3), ?_⟩;rw [lP_ (by simp)];intro l5 n5;refine⟨u1, .ref l5,wmF room i (-w),ws,rfl,hu1.mono (al_.new n5),bQ_ (t:=ws) ae_,by rw [bx_];exact rl5,by simp at wn;lia,by lia,fun H6 s6=>⟨_,_,rfl,rfl,⟨_,_,rfl⟩,((s03.trans s4).trans (al_.new n5)).trans s6⟩⟩
     .have eh:hh1 w ws room i=0:=by unfold hh1;rw [ex];exact A9 c
      rw [eh,Int.add_zero];exact⟨⟨_,_,rfl⟩,s03⟩
    .rintro σ H2 ⟨⟨v3,v4,rfl⟩,s2⟩;rw [A1];exact⟨_,rfl,kk H2 s2⟩
theorem ifw {c:Bool}{i:Nat}{σ:L2.St}{H1:Hp}{Q:VK}{x y:Int} (hx:σ[i]? =some (some (.int x))) (h:Q (.int (if c=true then x else y)) H1):if(if false=true then !c else c)=true then ob_ i σ H1 Q else Q (.int y) H1:=by
 rw [A9 AM];cases c
 .rw [A9 AM] at h⊢;exact h
 .rw [AA rfl] at h⊢;exact⟨_,hx,h⟩
theorem cl_:∀n:Nat,FnOk P w K mg base CX0 (n+2) T.f31 T.d31 ["d","room","weights","first"] (sO_ n K)
 |0=>⟨fun vs H Q E h=>(by obtain⟨_,_,_,_,_,_,_,_,_,_,_,_,h,_⟩:=h;exact absurd h (CT _)),fun A outer s H args us vs Q E _ _ _ _ h=>(by obtain⟨_,_,_,_,_,_,_,_,_,_,_,_,h,_⟩:=h;exact absurd h (CT _))⟩
 |n+1=>by
  have ih:=cl_ n;refine T.X31.F.ok aG_ (fun vs H Q E h=> ?_) (fun cdv A outer s H vs Q E hr h=> ?_)
  .obtain⟨_,_,_,_,_,_,rfl,_⟩:=h;rfl
  .obtain⟨d,v,u,room,ws,f,rfl,hv,hu,rld,d5,fd,wn,n7,kk⟩:=h;refine⟨_,(ac_ (a2_ (cQ_ (iF_ (pv 2) (fun _=>rfl))) (af_ (ap_ (aw_ (aa_ (aR_ (aa_ (aw_ ab_) (aa_ (pv 1) ab_))) ab_)))) ax_)
   (ac_ (an_ (i:=4) aG_.nd rfl (by trivial) (a4_ bc_ (pv 2) ad_ (fun _ _=>rfl)))
   (ac_ (an_ (i:=5) aG_.nd rfl (by trivial) (aw_ ab_))
   (ac_ (aJ_ AQ rfl (cy_ (by rfl) T.n_range (aa_ (pv 3) (aa_ (pv 0) ab_))) (am_ (i:=6) aG_.nd rfl (by trivial)) (af_ (a2_ (av_ kZ_ (a4_ aO_ (pv 1) (pv 6) (fun _ _=>rfl)) (pv 4) (az_ _)) (ac_ (an_ (i:=7) aG_.nd rfl (by trivial) (iJ_ (av_ (qc_ hr) (bo_ cp_ (pv 2) (bL_ ad_) (bL_ ad_)) (aw_ (aa_ (pv 4) ab_)) (az_ _)) (pv 6) ad_))
   (af_ (aJ_ AQ rfl (aQ_ (ah_ ih hr (by rfl) T.X31.m T.X31.F.kp T.X31.B .nil ar_ (aa_ (pv 0) (aa_ (ah_ (a6_ T) (hr.mono (by lia)) (by rfl) T.X9.m T.X9.F.kp T.X9.B .nil ar_ (aa_ (pv 1) (aa_ (pv 6) (aa_ (kR_ gA_ (pv 4)) ab_)))) (aa_ (bo_ cp_ (pv 2) (bL_ ad_) ce_) (aa_ (pv 7) ab_)))))) (bM_ rfl (aq_ (am_ (i:=8) aG_.nd rfl (by trivial)) (aq_ (am_ (i:=9) aG_.nd rfl (by trivial)) a5_))) (af_ (aN_ (dF_ Ab BO BN bs_ (pv 5) (aa_ (aR_ (aa_ (aj_ eC_ (aw_ (aa_ (aR_ (aa_ (aj_ aF_ (pv 6) ad_) (aa_ (aj_ aF_ (pv 0) ad_) (aa_ (pv 4) ab_)))) ab_)) (pv 8)) (aa_ (pv 9) ab_))) ab_))))))) ax_)))
   (af_ (ap_ (pv 5))))))), ?_⟩
   obtain⟨wa,rfl,hwa⟩:=bO_ hu;cases ws with
   |nil=>
    refine⟨_,rfl,false, .inl ⟨[],SqL.of hwa,rfl⟩,d0_ ?_⟩;refine⟨AK _,fun l0 H1 n1 s1 h1=>⟨_,rfl,(by show 2<=sizeLine;decide),fun t H2 n2 s2 h2=>⟨(by show 1<=sizeLine;decide),fun lo H3 n3 s3 h3=> ?_⟩⟩⟩;have s03:=(s1.trans s2).trans s3;refine kk lo H3 s03 ((s1.trans s2).free n3) (co_ (by rw [cm_ ((s1.trans s2).free n3)];exact h3) (ai_ (fs_ (fo_ s03 (s3 _ _ h2)) (ai_ (co_ (vs:=[]) (by rw [cm_ n1];exact s3 _ _ (s2 _ _ h1)) ao_) (ai_ (e6_ (mL_ s03) (hv.mono s03)) ao_))) ao_))
   |cons w ws=>
    refine⟨_,rfl,true, .inl ⟨_,SqL.of hwa,rfl⟩,dQ_ ?_⟩;have wn':ws.length<n:=by simp at wn;lia
    refine⟨_,rfl,wa,_,_,_,rfl,rfl,SqL.of hwa,at0, ?_⟩;refine⟨AK _,fun fo H1 nfo s1 hfo=> ?_⟩;refine⟨_,rfl,_,rfl,(f:Int),(d:Int),rfl,⟨by lia,by lia,by lia,by lia⟩, ?_⟩;rw [show((d:Int)-(f:Int)).toNat=d-f by lia];rw [gk_] at kk;have tot:∀i:Nat,i<d-f->((List.range i).flatMap (fp1 d w ws room f)).length+(fp1 d w ws room f i).length<=15625:=fun i hi=>by
     have:=eu_ (fp1 d w ws room f) hi;have h2:=nN_ (d:=d) d5 (ws:=w::ws) (room:=room) (f:=f);rw [gk_] at h2;have:=sZ_ (n:=(w::ws).length) (by simp;lia);lia
    refine bt_ (lo:=(f:Int)) (n:=d-f) (fun i σ H2=>(∃v6 v7 v8 v9,σ=[some (.int d),some v,some (.ref wa),some (.int f),some (.int w),some (.ref fo),v6,v7,v8,v9])/\al_ H H2/\Acc H H2 fo (((List.range i).flatMap (fp1 d w ws room f)).map fpD)) ⟨⟨none,none,none,none,rfl⟩,s1,Acc.start hfo⟩ ?_ ?_
    .rintro i σ H2 hi ⟨⟨v6,v7,v8,v9,rfl⟩,s2,hacc⟩;rw [show(f:Int)+(i:Int)=((f+i:Nat):Int) by lia];have at_p:atI (room.map D.i) ((f+i:Nat):Int)=some (.i (room.getD (f+i) 0)):=qW_ (by lia);refine⟨_,rfl,_,rfl,room.map .i,((f+i:Nat):Int),_,hv.mono s2,rfl,at_p,fun x hx=> ?_⟩;rw [c5_ hx];have tt:=tot i hi;refine⟨_,rfl,_,_,rfl,rfl,_,rfl,ee_ (fun c=> ?_) (fun c=> ?_)⟩
     .have eG:fp1 d w ws room f i=(fpF d ws (wmF room (f+i) (-w)) (if ws.take 1=[w] then f+i else 0)).map fun y=>((((f+i:Nat):Int)+1,(d:Int)+1,w)::y.1,y.2):=AA c;rw [eG,A1] at tt;have hw2:=s2 _ _ hwa;refine⟨_,rfl,1,rfl,2,rfl,wa,_,rfl,SqL.of hw2, ?_⟩;rw [AO,pc_,<-List.map_take];intro l3 n3;have s3:al_ H2 (upd H2 l3 (.lst ((ws.take 1).map V.int))):=al_.new n3;have h3:upd H2 l3 (.lst ((ws.take 1).map V.int)) l3=some (.lst ((ws.take 1).map V.int)):=ae_;generalize upd H2 l3 (.lst ((ws.take 1).map V.int))=H3 at s3 h3⊢;refine⟨_,rfl,(by show 1<=sizeLine;decide),fun l4 H4 n4 s4 h4=> ?_⟩;refine⟨1,_,qH_ (a:=ws.take 1) (b:=[w]) (bQ_ (s4 _ _ h3)) (bQ_ h4),by decide,_,rfl,ifw rfl ?_⟩;obtain⟨bg,hbg⟩:∃bg:Nat,bg=(if ws.take 1=[w] then f+i else 0):=⟨_,rfl⟩;have bgd:bg<=d:=by rw [hbg];split<;>lia
      have eb:(if decide (ws.take 1=[w])=true then((f+i:Nat):Int) else 0)=(bg:Int):=by
       rw [hbg];by_cases h:ws.take 1=[w]
       .rw [AA h,AA (by simpa using h)]
       .rw [A9 h,A9 (by simpa using h)];rfl
      rw [eb];rw [<-hbg] at eG tt;have s04:=(s2.trans s3).trans s4;have hw4:=s04 _ _ hwa;refine⟨_,rfl,_,rfl,_,rfl,_,rfl,_,rfl,v,room,f+i,-w,rfl,hv.mono s04,by lia,by lia,fun u1 H5 s5 hu1=> ?_⟩;refine⟨_,rfl,1,rfl,wa,_,rfl,SqL.of (s5 _ _ hw4), ?_⟩;rw [lP_ (by simp)];intro l6 n6;have s6:al_ H5 (upd H5 l6 (.lst (ws.map V.int))):=al_.new n6;have h6:upd H5 l6 (.lst (ws.map V.int)) l6=some (.lst (ws.map V.int)):=ae_;refine⟨_,rfl,d,u1, .ref l6,wmF room (f+i) (-w),ws,bg,rfl,hu1.mono s6,bQ_ (t:=ws) h6,by rw [bx_];exact rld,d5,bgd,wn',by lia,fun rl H7 s7 nrl hrl=> ?_⟩;have s06:=(s04.trans s5).trans s6;have hacc6:=hacc.mono (((s3.trans s4).trans s5).trans s6);change al_ (upd H5 l6 (.lst (ws.map V.int))) H7 at s7;change (upd H5 l6 (.lst (ws.map V.int))) rl=none at nrl;change Is (nw (upd H5 l6 (.lst (ws.map V.int))) H7) _ _ at hrl;generalize upd H5 l6 (.lst (ws.map V.int))=H6 at s06 hacc6 s7 nrl hrl;obtain⟨vs6,hfo6,hi6⟩:=hacc6;have hfo7:H7 fo=some (.lst vs6):=s7 _ _ hfo6;obtain⟨_,rvs,e,hrl',hri⟩:=b9_ hrl;cases e;have hrl7:H7 rl=some (.lst rvs):=a7_ _ _ hrl';have rlfo:rl≠fo:=by rintro rfl;rw [hfo6] at nrl;cases nrl
      have oit:∀y∈fpF d ws (wmF room (f+i) (-w)) bg,y.1.length<=20:=fun y hy=>by rw [(gj_ hy).1];lia
      generalize fpF d ws (wmF room (f+i) (-w)) bg=O at eG tt hri oit;have rlen:rvs.length=O.length:=by rw [hri.length,A1]
      have hriH:Iss (hid H7 fo) (O.map fpD) rvs:=(hri.mono (gR_ (al_.refl H6) hfo6)).mono (cM_ a7_);have s07:=s06.trans s7;refine⟨rl,rfl,⟨_,SqL.of hrl7⟩,aL_ (xs:=rvs) (fun j σ H8=>(∃v8 v9,σ=[some (.int d),some v,some (.ref wa),some (.int f),some (.int w),some (.ref fo),some (.int ((f+i:Nat):Int)),some (.int bg),v8,v9])/\al_ H H8/\But fo H7 H8/\Acc H H8 fo (((List.range i).flatMap (fp1 d w ws room f)++(O.take j).map fun y=>((((f+i:Nat):Int)+1,(d:Int)+1,w)::y.1,y.2)).map fpD)) ⟨⟨_,_,rfl⟩,s07,fun _ _ e _=>e,by simpa using Acc.mono s7 ⟨vs6,hfo6,hi6⟩⟩ (fun j σ H8 _ h=>SqL.of (h.2.2.1 _ _ hrl7 rlfo)) ?_ ?_⟩
      .rintro j x σ H8 hj ⟨⟨v8,v9,rfl⟩,s8,but8,vs8,hfo8,hi8⟩;obtain⟨dd,hdd,hx⟩:=hriH.of_get hj;rw [A6] at hdd;obtain⟨r,hr',rfl⟩:=A8.mp hdd;have hjl:j<O.length:=(AD.mp hr').1;have hx8:Is H8 (fpD r) x:=hx.mono (ib_ but8);obtain⟨xt,m1,m2,rfl,hxt,hm1,hm2⟩:=qg_ hx8;have vl:vs8.length<=15625:=by
        rw [hi8.length,A1,AB,A1,Ad];lia
       have r20:r.1.length<=20:=oit r (AS hr');refine⟨xt,_,rfl,SqT.of hxt,rfl,_,_,rfl,_,_,rfl,rfl, ?_⟩;refine⟨_,rfl, .inl ⟨rfl,_,SqL.of hfo8⟩,_,rfl,_,_,rfl,rfl,_,rfl,_,_,rfl,rfl,_,rfl,(by show 3<=sizeLine;decide),fun q1 H9 n9 s9 h9=>⟨(by show 1<=sizeLine;decide),fun q2 H10 n10 s10 h10=> ?_⟩⟩;have hp:Is H10 (lf (((f+i:Nat):Int)+1,(d:Int)+1,w)) (.ref q1):=lr_ (s10 _ _ h9);refine⟨_,rfl,[lf (((f+i:Nat):Int)+1,(d:Int)+1,w)],r.1.map lf,co_ h10 (ai_ hp ao_),(hm1.mono s9).mono s10,AZ (au_ (by rw [A1];show 1+r.1.length<=1000;lia)),fun q3 H11 n11 s11 h11=>⟨_,rfl,(by show 2<=sizeLine;decide),fun q4 H12 n12 s12 h12=> ?_⟩⟩;have s811:=(s9.trans s10).trans s11;have s812:=s811.trans s12;refine⟨fo,vs8,_,rfl,rfl,s812 _ _ hfo8,jM_ (by lia),⟨_,_,rfl⟩,(s8.trans s812).put nfo,but8.trans ((But.of_same s812).trans But.upd), ?_⟩;rw [AW,hr'];have:=Acc.add (x:=fpD ((((f+i:Nat):Int)+1,(d:Int)+1,w)::r.1,r.2)) s8 s812 hfo8 hi8 (fs_ (fo_ s812 h12) (ai_ (k4_ (ps:=(((f+i:Nat):Int)+1,(d:Int)+1,w)::r.1) s812 ((s9.trans s10).free n11) (h11.mono s12)) (ai_ (e6_ (mL_ s812) ((hm2.mono s811).mono s12)) ao_)));simpa using this
      .rintro σ H8 ⟨⟨v8,v9,rfl⟩,s8,_,hacc8⟩;refine⟨⟨_,_,_,_,rfl⟩,s8, ?_⟩;rw [rlen,AT,<-eG,<-bu_] at hacc8;exact hacc8
     .have eG:fp1 d w ws room f i=[]:=A9 c;refine⟨⟨_,_,_,_,rfl⟩,s2, ?_⟩;rw [bu_,eG,Ag];exact hacc
    .rintro σ H2 ⟨⟨v6,v7,v8,v9,rfl⟩,s2,hacc⟩;exact⟨_,rfl,kk fo H2 s2 nfo (hacc.is nfo)⟩
theorem p55:∀n:Nat,n<6->(5:Int)^n<=5^5:=by decide
theorem r3_ {d:Nat}{x:List Lf}{ws room:List Int}{f:Nat}{y:List Lf×List Int} (hs:Snd d x) (d1:1<=d) (d5:d<=5) (hw:ws.length<=5) (hy:y∈fpF d ws room f):sy_ d (x++y.1):=by
 obtain⟨pl,p10,_⟩:=hs.good.len d1 d5;obtain⟨q1,_,q3⟩:=gj_ hy;refine⟨fun m hm=> ?_,by rw [AB];lia⟩;rcases Bx.mp hm with h|h
 .obtain⟨o1,o2,o3,_⟩:=hs.ok m h;exact⟨o1,o2,by lia⟩
 .exact q3 m h
theorem h0_:FnOk P w K mg base (CX1 P w) 13 T.f33 T.d33 ["d","k","held","free"] (om_ T.c_NoBound T.c_NoEnds):=by
 refine T.X33.F.okx aS_ (fun vs H Q E h=> ?_) (fun cdv A outer s H vs Q E hr h hR hp=> ?_)
 .obtain⟨_,_,_,_,rfl,_⟩:=h;rfl
 .obtain⟨v,u,r1,r2,rfl,h⟩:=h;refine⟨_,(ac_ (aN_ (ah_ (cA_ T) (hr.mono (by decide)) (by rfl) T.X2.m T.X2.F.kp T.X2.B .nil hp (aa_ (pv 0) (aa_ (pv 1) ab_))))
   (ac_ (aN_ (ah_ (dW_ T) (hr.mono (by decide)) (by rfl) T.X7.m T.X7.F.kp T.X7.B .nil hp (aa_ (pv 0) (aa_ (pv 2) (aa_ (pv 3) ab_)))))
   (ac_ (an_ (i:=4) aS_.nd rfl (by trivial) (ah_ (dm_ T) (hr.mono (by decide)) (by rfl) T.X8.m T.X8.F.kp T.X8.B .nil ar_ (aa_ (pv 2) ab_)))
   (ac_ (an_ (i:=5) aS_.nd rfl (by trivial) (ah_ (dm_ T) (hr.mono (by decide)) (by rfl) T.X8.m T.X8.F.kp T.X8.B .nil ar_ (aa_ (pv 3) ab_)))
   (ac_ (an_ (i:=6) aS_.nd rfl (by trivial) ad_)
   (ac_ (PS.quiet (aJ_ AQ rfl (aQ_ (ah_ (hZ_ T) (hr.mono (by decide)) (by rfl) T.X27.m T.X27.F.kp T.X27.B .nil ar_ (aa_ (pv 0) (aa_ (pv 1) ab_)))) (am_ (i:=7) aS_.nd rfl (by trivial)) (af_ (aJ_ AQ rfl (aQ_ (ah_ (cl_ T 7) (hr.mono (by decide)) (by rfl) T.X31.m T.X31.F.kp T.X31.B .nil ar_ (aa_ (pv 0) (aa_ (cz_ b1_ (by rfl) T.n_tuple boot_tuple (aa_ (ah_ (fl_ T) (hr.mono (by decide)) (by rfl) T.X22.m T.X22.F.kp T.X22.B .nil ar_ (aa_ (pv 0) (aa_ (pv 7) ab_))) ab_)) (aa_ (pv 5) (aa_ ad_ ab_)))))) (bM_ rfl (aq_ (am_ (i:=8) aS_.nd rfl (by trivial)) (aq_ (am_ (i:=9) aS_.nd rfl (by trivial)) a5_))) (ac_ (an_ (i:=10) aS_.nd rfl (by trivial) (aj_ bl_ (ah_ (ck_ T 7) (hr.mono (by decide)) (by rfl) T.X32.m T.X32.F.kp T.X32.B .nil ar_ (aa_ (pv 9) (aa_ (pv 4) ab_))) (ah_ (dp_ T) (hr.mono (by decide)) (by rfl) T.X30.m T.X30.F.kp T.X30.B .nil ar_ (aa_ (pv 0) (aa_ (aj_ eC_ (pv 7) (pv 8)) ab_)))))
   (af_ (fi_ (i:=6) aS_.nd rfl (by trivial) (aj_ bl_ (aj_ bl_ (ah_ (mK_ T) (hr.mono (by decide)) (by rfl) T.X28.m T.X28.F.kp T.X28.B .nil ar_ (aa_ (pv 7) ab_)) (ah_ (do_ T) (hr.mono (by decide)) (by rfl) T.X10.m T.X10.F.kp T.X10.B .nil ar_ (aa_ (pv 5) ab_))) (pv 10)) i5_)))))))
   (af_ (ap_ (pv 6))))))))), ?_⟩
  rcases h with⟨d,k,a,b,rfl,rfl,hW4,h1,h2,ra,rb,e,la,lb,kk⟩|⟨tv,tu,hn,ke⟩|⟨d,k,rfl,rfl,hW,bad,ke⟩
  rotate_left 1
  .exact⟨_,rfl,_,rfl,v,u,rfl,tv,tu,fun h=>absurd h hn,fun _=>ke⟩
  .exact⟨_,rfl,_,rfl, .int d, .int k,rfl,be_.int,be_.int,fun _=>⟨_,rfl,_,rfl,_,rfl,d,r1,r2,rfl, .inr ⟨bad,ke⟩⟩,fun h=>absurd ⟨d,k,rfl,rfl,hW⟩ h⟩
  obtain⟨_,g4,g5⟩:=nY_ hW4;have d15:1<=d/\d<=5:=by have:=hW4;unfold W4 at this;lia
  have wna:=bF_ (i:=1) (by decide) ra.1;have wnb:=bF_ (i:=1) (by decide) rb.1;have e':=e;rw [show wtF a=wtG 1 a from rfl,show wtF b=wtG 1 b from rfl] at e';obtain⟨la5,_⟩:=ng_ (t:=a) ra.1 ra.2.1 (by show wtG 1 a<=5;lia);obtain⟨lb5,pw⟩:=ng_ (t:=b) rb.1 rb.2.1 (by show wtG 1 b<=5;lia);refine⟨_,rfl,_,rfl, .int d, .int k,rfl,be_.int,be_.int,fun _=> ?_,fun h=>absurd ⟨d,k,rfl,rfl,hW4.wide⟩ h⟩;refine⟨_,rfl,_,rfl,_,rfl,d,r1,r2,rfl, .inl ⟨a,b,h1,h2,ra,rb,e,fun H1 s1=> ?_⟩⟩;refine⟨_,rfl,r1,a,rfl,h1.mono s1,ra.1,by lia,fun wa H2 s2 _ hwa=> ?_⟩;refine⟨_,rfl,r2,b,rfl,(h2.mono s1).mono s2,rb.1,by lia,fun wb H3 s3 _ hwb=> ?_⟩;refine⟨_,rfl,_,rfl,d,k,rfl,hW4,fun L l H4 hp' s4 nl hl=> ?_⟩;have hl:=hl.mono a7_;obtain⟨_,lvs,e,hl4,hli⟩:=b9_ hl;cases e;have s04:=((s1.trans s2).trans s3).trans s4;have hwa4:=(hwa.mono s3).mono s4;have hwb4:=hwb.mono s4;clear hwa hwb;refine⟨l,rfl,⟨_,SqL.of hl4⟩,aL_ (xs:=lvs) (fun i σ H5=>(∃z v7 v8 v9 v10,σ=[some (.int d),some (.int k),some r1,some r2,some (.ref wa),some (.ref wb),some (.int z),v7,v8,v9,v10])/\al_ H4 H5) ⟨⟨_,none,none,none,none,rfl⟩,al_.refl _⟩ (fun i σ H5 _ h=>SqL.of (h.2 _ _ hl4)) ?_ ?_⟩
  .rintro i y σ H5 hi ⟨⟨tz,v7,v8,v9,v10,rfl⟩,s5⟩;obtain⟨dd,hdd,hy⟩:=hli.of_get hi;rw [A6] at hdd;obtain⟨x,hx,rfl⟩:=A8.mp hdd;obtain⟨o1,o2,o3,o4,o5⟩:=k1_ (g4 x (hp'.mem_iff.mp (AS hx)));have hy5:=hy.mono s5;have el:(hc_ d x).length=d:=jg_ d x o1.okl;refine⟨_,rfl,_,rfl,_,rfl,d,y,x,rfl,d15.1,d15.2,hy5,o1.okl,fun le H6 s6 nle hle=> ?_⟩;refine⟨.ref le,(hc_ d x).map .i,rfl,co_ hle (eg_ _),fun tp H7 ntp s7 htp=> ?_⟩;have s47:=(s5.trans s6).trans s7;refine⟨_,rfl,d, .ref tp, .ref wb,hc_ d x,hF_ b,0,rfl,htp,hwb4.mono s47,el,d15.2,AK _,by lia,by decide,fun rl H8 s8 nrl hrl=> ?_⟩;have hrl:=hrl.mono a7_;obtain⟨_,rvs,e,hrl8,hri⟩:=b9_ hrl;cases e;have s48:=s47.trans s8;refine⟨rl,rfl,⟨_,SqL.of hrl8⟩,aL_ (xs:=rvs) (fun j σ H9=>(∃z v8 v9 v10,σ=[some (.int d),some (.int k),some r1,some r2,some (.ref wa),some (.ref wb),some (.int z),some y,v8,v9,v10])/\al_ H8 H9) ⟨⟨tz,v8,v9,v10,rfl⟩,al_.refl _⟩ (fun j σ H9 _ h=>SqL.of (h.2 _ _ hrl8)) ?_ ?_⟩
   .rintro j z σ H9 hj ⟨⟨tz2,v8,v9,v10,rfl⟩,s9⟩;obtain⟨dd,hdd,hz⟩:=hri.of_get hj;rw [A6] at hdd;obtain⟨r,hr',rfl⟩:=A8.mp hdd;have hrm:=AS hr';obtain⟨q1,q2,_⟩:=gj_ hrm;obtain⟨xt,m1,m2,rfl,hxt,hm1,hm2⟩:=qg_ (hz.mono s9);have s49:=s48.trans s9;have hy9:=hy.mono s49;have bb:=nL_ (ws:=hF_ a) (room:=r.2) (by lia);have p5:=p55 (hF_ a).length (by lia);have pb:=hR_ pw;have p6:=p55 (hF_ b).length (by lia);have wp:0<=da_ x*gv_ (hF_ b)/\da_ x*gv_ (hF_ b)<=2^40*5^5:=⟨Bf o4 pb.1,C8 (Int.le_of_lt o5) (Int.le_trans pb.2 p6) pb.1 (by decide)⟩;refine⟨xt,_,rfl,SqT.of hxt,rfl,_,_,rfl,_,_,rfl,rfl, ?_⟩;refine⟨_,rfl,_,rfl,m2, .ref wa,r.2,hF_ a,rfl,hm2,hwa4.mono s49,by lia,by lia,by decide,fun HA sA=> ?_⟩;refine⟨_,rfl,_,rfl,_,rfl,x.map lf,r.1.map lf,hy9.mono sA,hm1.mono sA,AZ (au_ (by rw [A1,A1];lia)),fun l3 HB n3 sB h3=> ?_⟩;rw [<-AH] at h3;refine⟨d, .ref l3,x++r.1,rfl,d15.1,d15.2,h3,r3_ o1 d15.1 d15.2 lb5 hrm,fun HC sC=>⟨_,_,rfl,rfl, .inl ⟨by lia,by lia⟩, ?_⟩⟩;have s9C:=(sA.trans sB).trans sC;exact⟨_,rfl,_,rfl,y,x,d,rfl,hy9.mono s9C,(fun p hp=>⟨trivial,(o2 p hp).2⟩),_,rfl, .ref wb,hF_ b,rfl,(hwb4.mono s49).mono s9C,pw,_,_,rfl,rfl, .inl ⟨by lia,by lia⟩,_,rfl,_,_,rfl,rfl, .inl ⟨by lia,by lia⟩,_,_,rfl,rfl,⟨_,_,_,_,rfl⟩,s9.trans s9C⟩
   .rintro σ H9 ⟨⟨tz2,v8,v9,v10,rfl⟩,s9⟩;exact⟨⟨tz2,some y,v8,v9,v10,rfl⟩,s48.trans s9⟩
  .rintro σ H5 ⟨⟨tz,v7,v8,v9,v10,rfl⟩,s5⟩;exact⟨_,rfl,kk _ H5 (s04.trans s5)⟩
theorem st_ {X:Cx} (e1:X.prog=P) (e2:X.w=w) (e3:X.K=K) (e4:X.mg=mg) (e5:X.base=base) (hr:Room 54 X.A):∀g,(g=T.f21\/g=T.f33)->Deed X (CX1 X.prog X.w) ["d","k","held","free"] (om_ T.c_NoBound T.c_NoEnds) g:=by
 subst e1 e2 e3 e4 e5;rintro g (rfl|rfl)
 .exact⟨⟨54,_,jH_ T,hr,T.X21.B⟩,T.X21.F.kp⟩
 .exact⟨⟨13,_,h0_ T,hr.mono (by decide),T.X33.B⟩,T.X33.F.kp⟩
theorem gP_:FnOk P w K mg base CX0 2 T.f37 T.d37 ["_law_rest","_law_d"] (rI_ K):=by
 refine T.X37.F.ok bf_ (fun vs H Q E h=> ?_) (fun cdv A outer s H vs Q E hr h=> ?_)
 .obtain⟨_,_,_,rfl,_⟩:=h;rfl
 .obtain⟨b,d,z,rfl,hb,z0,d1,d5,kk⟩:=h;refine⟨_,(ac_ (an_ (i:=2) bf_.nd rfl (by trivial) (aj_ c4_ (aw_ (aa_ ad_ ab_)) (pv 1)))
   (ac_ (an_ (i:=3) bf_.nd rfl (by trivial) (aj_ c4_ (aw_ (aa_ ad_ ab_)) (pv 1)))
   (ac_ (an_ (i:=4) bf_.nd rfl (by trivial) (pv 1))
   (ac_ (iG_ AQ (av_ jG_ (pv 4) ad_ (az_ _)) (ac_ (an_ (i:=5) bf_.nd rfl (by trivial) (aj_ aF_ ad_ (ah_ (as_ T) (hr.mono (by decide)) (by rfl) T.X36.m T.X36.F.kp T.X36.B .nil ar_ (aa_ (pv 0) (aa_ (pv 4) ab_)))))
   (ac_ (a2_ (av_ cf_ (ah_ (as_ T) (hr.mono (by decide)) (by rfl) T.X36.m T.X36.F.kp T.X36.B .nil ar_ (aa_ (pv 0) (aa_ ad_ ab_))) ad_ (az_ _)) (af_ (iH_ (aj_ aF_ (a4_ bc_ (pv 2) (aj_ aD_ (pv 5) ad_) (fun _ _=>rfl)) ad_) (kQ_ (pv 2) (aj_ aD_ (pv 5) ad_) de_))) (af_ (iH_ (aj_ aF_ (a4_ bc_ (pv 3) (aj_ aD_ (pv 5) ad_) (fun _ _=>rfl)) ad_) (kQ_ (pv 3) (aj_ aD_ (pv 5) ad_) de_))))
   (af_ (an_ (i:=4) bf_.nd rfl (by trivial) (aj_ aD_ (pv 4) (pv 5)))))))
   (af_ (ap_ (aR_ (aa_ (pv 2) (aa_ (pv 3) ab_))))))))), ?_⟩
  refine⟨(by show 1<=sizeLine;decide),fun a1 H1 n1 s1 h1=>⟨_,rfl, .i 0,d,co_ h1 (ai_ d1_ ao_),rfl,by lia,by lia,AZ (au_ (by lia)),fun l1 H2 nl1 s2 hl1=> ?_⟩⟩;refine⟨(by show 1<=sizeLine;decide),fun a3 H3 n3 s3 h3=>⟨_,rfl, .i 0,d,co_ h3 (ai_ d1_ ao_),rfl,by lia,by lia,AZ (au_ (by lia)),fun l2 H4 nl2 s4 hl2=> ?_⟩⟩;rw [Ai,<-CC] at hl1 hl2;obtain⟨_,e,g1⟩:=bO_ hl1;cases e;obtain⟨_,e,g2⟩:=bO_ hl2;cases e;have s02:=s1.trans s2;have s04:=(s02.trans s3).trans s4;have l12:l1≠l2:=by rintro rfl;rw [s3 _ _ g1] at nl2;cases nl2
  have g1:=s4 _ _ (s3 _ _ g1);have n1H:H l1=none:=s1.free nl1;have n2H:H l2=none:=(s02.trans s3).free nl2;have b1:b≠l1:=by rintro rfl;rw [hb] at n1H;cases n1H
  have b2:b≠l2:=by rintro rfl;rw [hb] at n2H;cases n2H
  have nn0:∀n:Nat,Nn (List.replicate n 0):=fun n i=>by
   rw [A5,Ca];split<;>simp
  have w0:wtF (List.replicate d 0)=0:=by
   have:=j7_ (n:=d) (t:=[]) (i:=1);rw [List.nil_append] at this;exact this
  refine⟨_,rfl, ?_⟩;refine ir_ (fun σ H5=>∃(hh ff:List Int) (m z:Int) (v5:Option V),σ=[some (.ref b),some (.int d),some (.ref l1),some (.ref l2),some (.int m),v5]/\But b H H5/\H5 b=some (.lst [.int z])/\0<=z/\H5 l1=some (.lst (hh.map V.int))/\H5 l2=some (.lst (ff.map V.int))/\hh.length=d/\ff.length=d/\Nn hh/\Nn ff/\0<=m/\m<=5/\wtF hh+wtF ff+m=(d:Int))
   (fun(σ:L2.St) _=>match σ[4]? with|some (some (V.int i))=>i.toNat|_=>0) ⟨_,_,d,z,none,rfl,But.of_same s04,s04 _ _ hb,z0,g1,g2,by simp,by simp,nn0 d,nn0 d,by lia,by lia,by rw [w0];lia⟩ ?_ ?_
  .rintro σ H5 ⟨hh,ff,m,z,v5,rfl,but5,hb5,z0,h1,h2,hl,fl,hn,fn,m0,m5,hw⟩;refine⟨_,rfl,_,_,rfl,rfl,_,rfl,ee_ (fun hpos=> ?_) (fun hpos=> ?_)⟩
   .have hpos:m>0:=hpos;have md:m<=(d:Int):=by
     have wa:=bF_ (i:=1) (by decide) hn;have wb:=bF_ (i:=1) (by decide) fn;unfold wtF at hw;lia
    refine⟨_,rfl,_,rfl,b,m,z,rfl,hb5,z0,by lia,by lia,fun y z1 y0 ym z10=>⟨_,_,rfl,rfl, ?_⟩⟩;refine⟨_,rfl,b,2,z1,rfl,ae_,z10,by decide,by decide,fun y2 z2 _ _ z20=> ?_⟩;obtain⟨n,rfl⟩:=Ao y0;have en:(1+(n:Int)-1)=(n:Int):=by lia
    have wm:∀{t:List Int},t.length=d->wtF (wmF t n 1)=wtF t+(1+(n:Int))*1:=fun ht=>gx_ (by lia);generalize hH6:upd (upd H5 b (.lst [.int z1])) b (.lst [.int z2])=H6;have hb6:H6 b=some (.lst [.int z2]):=by rw [<-hH6];exact ae_
    have k6:∀c,c≠b->H6 c=H5 c:=fun c hc=>by rw [<-hH6,ak_ hc,ak_ hc]
    have but6:But b H H6:=fun c o e n=>by rw [k6 c n];exact but5 c o e n
    have h16:=(k6 l1 b1.symm).trans h1;have h26:=(k6 l2 b2.symm).trans h2;refine⟨rfl,_,rfl,gw_ (fun _=> ?_) (fun _=> ?_)⟩
    .refine⟨_,rfl,_,rfl,_,_,rfl,rfl,l1,_,_,_,rfl,rfl,SqL.of h16,by rw [en];exact px_ (by lia),_,_,rfl,rfl,_,rfl,_,rfl,_,_,rfl,rfl,l1,_,_,n,rfl,rfl,h16,by rw [en];exact gf_ (by rw [A1];lia), ?_⟩;rw [nj_];refine⟨_,rfl,_,rfl,_,_,rfl,rfl,⟨wmF hh n 1,ff,_,z2,_,rfl,fun c o e n=> ?_,by rw [ak_ b1];exact hb6,z20,ae_,by rw [ak_ l12.symm];exact h26,by rw [bx_];exact hl,fl,jI_ (by lia) hn (by have:=hn n;lia),fn,by lia,by lia,by rw [wm hl];lia⟩, ?_⟩
     .rw [ak_ (by rintro rfl;rw [n1H] at e;cases e)];exact but6 c o e n
     .show(m-(1+(n:Int))).toNat<m.toNat;lia
    .refine⟨_,rfl,_,rfl,_,_,rfl,rfl,l2,_,_,_,rfl,rfl,SqL.of h26,by rw [en];exact px_ (by lia),_,_,rfl,rfl,_,rfl,_,rfl,_,_,rfl,rfl,l2,_,_,n,rfl,rfl,h26,by rw [en];exact gf_ (by rw [A1];lia), ?_⟩;rw [nj_];refine⟨_,rfl,_,rfl,_,_,rfl,rfl,⟨hh,wmF ff n 1,_,z2,_,rfl,fun c o e n=> ?_,by rw [ak_ b2];exact hb6,z20,by rw [ak_ l12];exact h16,ae_,hl,by rw [bx_];exact fl,hn,jI_ (by lia) fn (by have:=fn n;lia),by lia,by lia,by rw [wm fl];lia⟩, ?_⟩
     .rw [ak_ (by rintro rfl;rw [n2H] at e;cases e)];exact but6 c o e n
     .show(m-(1+(n:Int))).toNat<m.toNat;lia
   .have hpos:¬m>0:=hpos;refine⟨_,rfl,_,rfl,(by show 2<=sizeLine;decide),fun t H6 nt s6 ht=> ?_⟩;have ntH:H t=none:=by
     cases e:H t with
     |none=>rfl
     |some o=>
      by_cases hc:t=b
      .rw [hc,hb5] at nt;cases nt
      .rw [but5 t o e hc] at nt;cases nt
    exact kk t l1 l2 hh ff H6 (fun c o e n=>s6 _ _ (but5 c o e n)) ntH n1H n2H l12 ht (s6 _ _ h1) (s6 _ _ h2) hl fl hn fn (by lia)
  .rintro σ H Q Q' k ⟨v1,e1,i1,i2,e2,e3,b,e4,h⟩;exact⟨v1,e1,i1,i2,e2,e3,b,e4,k _ _ h⟩
theorem cB_:FnOk P w K mg base CX0 1 T.f38 T.d38 ["_law_row"] (rH_ K):=by
 refine T.X38.F.ok cq_ (fun vs H Q E h=> ?_) (fun cdv A outer s H vs Q E hr h=> ?_)
 .obtain⟨_,_,rfl,_⟩:=h;rfl
 .obtain⟨v,t,rfl,hv,tl,kk⟩:=h;refine⟨_,(ac_ (an_ (i:=0) cq_.nd rfl (by trivial) (cz_ gr_ (by rfl) T.n_list boot_list (aa_ (pv 0) ab_)))
   (ac_ (iG_ AQ (nx_ (av_ jG_ (aE_ bv_ (by rfl) T.n_len boot_len (aa_ (pv 0) ab_)) ad_ (az_ _)) (kI_ (av_ cf_ (a4_ bc_ (pv 0) (kR_ gA_ ad_) (fun _ _=>rfl)) ad_ (az_ _)))).pt (af_ (aN_ (p6_ Ab PySem.F.slot_list_pop PySem.F.type_list_pop ql_ (pv 0)))))
   (af_ (ap_ (pv 0))))), ?_⟩
  refine⟨_,rfl,v,_,rfl, .inl hv,fun l H1 nl s1 hl=> ?_⟩;obtain⟨_,e,hl1⟩:=bO_ (t:=t) hl;cases e;refine ir_ (fun σ H2=>∃cs:List Int,σ=[some (.ref l)]/\al_ H H2/\H2 l=some (.lst (cs.map V.int))/\trF cs=trF t/\cs.length<=5)
   (fun(_:L2.St) H2=>match H2 l with|some (.lst xs)=>xs.length|_=>0) ⟨t,rfl,s1,hl1,rfl,tl⟩ ?_ ?_
  .rintro σ H2 ⟨cs,rfl,s2,h2,et,cl⟩;refine⟨_,rfl,l,_,rfl, .inl (SqL.of h2),_,_,rfl,rfl,_,rfl,ee_ (fun hp=> ?_) (fun hp=> ?_)⟩
   .have hp:0<cs.length:=by rw [A1] at hp;lia
    obtain⟨c,x,rfl⟩:=kr_ (t:=cs) (by rintro rfl;cases hp);have at_:atI ((c++[x]).map V.int) (-1)=some (.int x):=by
     unfold atI ixN;rw [A1,AB,A9 (by decide),AA (by simp;lia)];show((c++[x]).map V.int)[((-1:Int)+((c.length+1:Nat):Int)).toNat]? =_;rw [show((-1:Int)+((c.length+1:Nat):Int)).toNat=c.length by lia,A6,BD (A7 _),Ce];rfl
    refine⟨_,rfl,1,rfl,l,_,-1, .int x,rfl,rfl,SqL.of h2,at_,rfl,_,rfl,gw_ (fun hx=> ?_) (fun hx=> ?_)⟩
    .have hx:x=0:=hx;subst hx;refine⟨_,rfl, .inl ⟨rfl,_,SqL.of h2⟩,l,_, .int 0,rfl,rfl,h2, ?_,⟨c,rfl,s2.put nl, ?_, ?_, ?_⟩, ?_⟩
     .rw [A1,AB,A6];show((c++[0])[c.length+1-1]?).map _=_;rw [Nat.add_sub_cancel,BD (A7 _),Ce];rfl
     .rw [ae_,AH];show some (HO.lst ((c.map V.int++[V.int 0]).dropLast))=_;rw [List.dropLast_concat]
     .rw [<-et,it_]
     .rw [AB] at cl;lia
     .show(match upd H2 l _ l with|some (.lst xs)=>xs.length|_=>0)<(match H2 l with|some (.lst xs)=>xs.length|_=>0);rw [ae_,h2];simp only [A1,AB,List.length_dropLast,AL,B8];lia
    .have hx:x≠0:=hx;rw [kj_ hx] at et;rw [<-et] at kk;exact⟨_,rfl,kk l H2 s2 nl (bQ_ h2)⟩
   .have hp:cs=[]:=by
     rw [A1] at hp;exact Bh.mp (by lia)
    subst hp;rw [<-et] at kk;exact dQ_ ⟨_,rfl,kk l H2 s2 nl (bQ_ h2)⟩
  .rintro σ H Q Q' k ⟨v1,e1,p1,ys,e2,e3,i1,i2,e4,e5,b,e6,h⟩;refine⟨v1,e1,p1,ys,e2,e3,i1,i2,e4,e5,b,e6, ?_⟩;cases b with
   |false=>exact k _ _ h
   |true=>
    obtain⟨w1,f1,n1,f2,p2,xs,j,u,g1,g2,g3,g4,g5,b,g6,g⟩:=h;exact⟨w1,f1,n1,f2,p2,xs,j,u,g1,g2,g3,g4,g5,b,g6,k _ _ g⟩
theorem nl_ {t:List Int}{n:Nat} (hl:t.length=n) (h:Nn t) (n5:n<=5):e2_ (trF t)/\(trF t).length<=n/\hB_ n (trF t)=t/\wtF (trF t)=wtF t:=by
 obtain⟨h1,h2,h3⟩:=nm_ hl;have hw:wtF (trF t)=wtF t:=by
  conv=>rhs;rw [<-h2]
  exact j7_.symm
 have hn:Nn (trF t):=fun i=>by
  by_cases hi:i<(trF t).length
  .have:=h i;rw [<-h2] at this;unfold hB_ at this
   rwa [A5,Bv hi,<-A5] at this
  .rw [A5,List.getElem?_eq_none (by lia)];exact CL 0
 refine⟨⟨hn,by lia,h3.imp_right fun⟨s,x,e,x0⟩=>⟨s,x,e, ?_⟩⟩,h1,h2,hw⟩;rw [e] at hn;have:=(jJ_ hn).2;lia
theorem eF_:FnOk P w K mg base CX0 10 T.f39 T.d39 ["_law_rest","_law_least","_law_most"] (pQ_ K):=by
 refine T.X39.F.ok cX_ (fun vs H Q E h=> ?_) (fun cdv A outer s H vs Q E hr h=> ?_)
 .obtain⟨_,_,_,_,rfl,_⟩:=h;rfl
 .obtain⟨b,lo,hi,z,rfl,hb,z0,kk⟩:=h;refine⟨_,(ac_ (an_ (i:=3) cX_.nd rfl (by trivial) (ah_ (as_ T) (hr.mono (by decide)) (by rfl) T.X36.m T.X36.F.kp T.X36.B .nil ar_ (aa_ (pv 0) (aa_ ad_ ab_))))
   (ac_ (an_ (i:=4) cX_.nd rfl (by trivial) (ah_ (as_ T) (hr.mono (by decide)) (by rfl) T.X36.m T.X36.F.kp T.X36.B .nil ar_ (aa_ (pv 0) (aa_ (a4_ bc_ (aw_ (aa_ ad_ (aa_ (aj_ dU_ ad_ ad_) ab_))) (ah_ (as_ T) (hr.mono (by decide)) (by rfl) T.X36.m T.X36.F.kp T.X36.B .nil ar_ (aa_ (pv 0) (aa_ ad_ ab_))) (fun _ _=>rfl)) ab_))))
   (ac_ (a2_ (av_ cf_ (pv 3) ad_ (az_ _)) (af_ (ap_ (aj_ aF_ (aj_ aF_ (pv 2) ad_) (pv 4)))) ax_)
   (ac_ (a2_ (av_ cf_ (pv 3) ad_ (az_ _)) (af_ (ap_ (aj_ aD_ (aj_ aD_ (pv 1) ad_) (pv 4)))) ax_)
   (af_ (ap_ (a4_ bc_ (aw_ (aa_ kS_ (aa_ ex_ (aa_ ex_ (aa_ ev_ (aa_ (aw_ (aa_ ad_ ab_)) (aa_ (aR_ (aa_ ad_ (aa_ ad_ ab_))) ab_))))))) (aj_ aD_ (pv 3) ad_) (fun _ _=>rfl)))))))), ?_⟩
  refine⟨_,rfl,b,8,z,rfl,hb,z0,by decide,by decide,fun wy z1 w0 w1 z10=> ?_⟩;have hb1:upd H b (.lst [.int z1]) b=some (.lst [.int z1]):=ae_;have s01:But b H (upd H b (.lst [.int z1])):=But.upd;generalize upd H b (.lst [.int z1])=H2 at hb1 s01⊢;refine⟨_,rfl,10,30,rfl,rfl,⟨by decide,by decide,by decide⟩,(by show 2<=sizeLine;decide),fun q H3 nq s3 hq=> ?_⟩;refine⟨_,rfl,b,2,z1,rfl,s3 _ _ hb1,z10,by decide,by decide,fun c z2 c0 c1 z20=> ?_⟩;have qb:q≠b:=by rintro rfl;rw [hb1] at nq;cases nq
  have hq4:upd H3 b (.lst [.int z2]) q=some (.lst [.int 3, .int (10^(30:Int).toNat)]):=by rw [ak_ qb];exact hq
  have hb4:upd H3 b (.lst [.int z2]) b=some (.lst [.int z2]):=ae_;have s04:But b H (upd H3 b (.lst [.int z2])):=(s01.trans (But.of_same s3)).trans But.upd;generalize upd H3 b (.lst [.int z2])=H4 at hq4 hb4 s04⊢;obtain⟨m,hm,m0,m1⟩:∃m:Int,atI [V.int 3, .int (10^(30:Int).toNat)] c=some (.int m)/\0<m/\m<=10^60:=by
   rcases(show c=0\/c=1 by lia) with rfl|rfl
   .exact⟨3,rfl,by decide,by decide⟩
   .exact⟨_,rfl,by decide,by decide⟩
  refine⟨q,_,c, .int m,rfl,rfl,SqL.of hq4,hm,b,m,z2,rfl,hb4,z20,m0,m1,fun far z3 f0 f1 z30=> ?_⟩;have s05:But b H (upd H4 b (.lst [.int z3])):=s04.trans But.upd;generalize upd H4 b (.lst [.int z3])=H5 at s05⊢;refine⟨_,rfl,rfl,_,rfl,gw_ (fun e=> ?_) (fun e=> ?_)⟩
  .exact⟨_,rfl,_,_,rfl,rfl,_,rfl,_,_,rfl,rfl,kk _ H5 s05 (.inl ⟨_,rfl⟩) (fun⟨i,ei,_,h4⟩=>by have:=V.int.inj ei;lia)⟩
  refine⟨_,rfl,rfl,_,rfl,gw_ (fun e2=> ?_) (fun e2=> ?_)⟩
  .exact⟨_,rfl,_,_,rfl,rfl,_,rfl,_,_,rfl,rfl,kk _ H5 s05 (.inl ⟨_,rfl⟩) (fun⟨i,ei,h1,_⟩=>by have:=V.int.inj ei;lia)⟩
  refine⟨(by show 1<=sizeLine;decide),fun q5 H6 n6 s6 h6=>⟨(by show 2<=sizeLine;decide),fun q6 H7 n7 s7 h7=>⟨(by show 6<=sizeLine;decide),fun q7 H8 n8 s8 h8=> ?_⟩⟩⟩;have h6':=s8 _ _ (s7 _ _ h6);have h7':=s8 _ _ h7;obtain⟨v,hv,tv,nw⟩:∃v,atI [V.non, .bl true, .bl false, .str (Str.ofString "2"), .ref q5, .ref q6] (wy-2)=some v/\be_ H8 v/\¬Within lo hi v:=by
   rcases(show wy=2\/wy=3\/wy=4\/wy=5\/wy=6\/wy=7 by lia) with rfl|rfl|rfl|rfl|rfl|rfl
   .exact⟨_,rfl, .inr (.inr (.inl rfl)),fun⟨i,e,_⟩=>nomatch e⟩
   .exact⟨_,rfl, .inr (.inl ⟨_,rfl⟩),fun⟨i,e,_⟩=>nomatch e⟩
   .exact⟨_,rfl, .inr (.inl ⟨_,rfl⟩),fun⟨i,e,_⟩=>nomatch e⟩
   .exact⟨_,rfl, .inr (.inr (.inr (.inl ⟨_,rfl⟩))),fun⟨i,e,_⟩=>nomatch e⟩
   .exact⟨_,rfl, .inr (.inr (.inr (.inr (.inl ⟨_,_,rfl,h6'⟩)))),fun⟨i,e,_⟩=>nomatch e⟩
   .exact⟨_,rfl, .inr (.inr (.inr (.inr (.inr ⟨_,_,rfl,h7'⟩)))),fun⟨i,e,_⟩=>nomatch e⟩
  exact⟨_,rfl,_,_,rfl,rfl,q7,_,_,v,rfl,rfl,SqL.of h8,hv,kk v H8 (s05.trans (But.of_same ((s6.trans s7).trans s8))) tv nw⟩
theorem dY_:FnOk P w K mg base CX0 55 T.f43 T.d43 ["_law_by","_law_d","_law_k","_law_held","_law_free"] (ry_ fun g=>g=T.f21\/g=T.f33):=by
 refine T.X43.F.ok dS_ (fun vs H Q E h=> ?_) (fun cdv A outer s H vs Q E hr h=> ?_)
 .obtain⟨_,_,_,_,_,_,_,rfl,_⟩:=h;rfl
 .obtain⟨f,d,k,r1,r2,a,b,rfl,hf,hW,h1,h2,ra,rb,e,la,lb,kk⟩:=h;refine⟨_,(ac_ (an_ (i:=5) dS_.nd rfl (by trivial) (mE_ (pv 0) (st_ T rfl rfl rfl rfl rfl (hr.mono (by decide))) p8_ (aa_ (pv 1) (aa_ (pv 2) (aa_ (pv 3) (aa_ (pv 4) ab_))))))
   (af_ (ap_ (iK_ (aE_ dw_ (by rfl) T.n_isinstance Bw (aa_ (pv 5) (aa_ (dG_ (v:= .ty "int") (by rfl) T.n_int boot_int (by rfl)) ab_))) (gM_ (nA_ (aE_ dw_ (by rfl) T.n_isinstance Bw (aa_ (pv 5) (aa_ (dG_ (v:= .ty "bool") (by rfl) T.n_bool boot_bool (by rfl)) ab_))))))))), ?_⟩
  refine⟨f,rfl,hf,_,rfl,_,rfl,_,rfl,_,rfl, .int d, .int k,r1,r2,rfl, .inl ⟨d,k,a,b,rfl,rfl,hW,h1,h2,ra,rb,e,la,lb,fun z H1 s1=> ?_⟩⟩;exact⟨_,rfl,_,"int",_,true,rfl, .int _,gc_,true,rfl,d0_ ⟨_,rfl,_,"bool",_,false,rfl, .int _,rfl,_,rfl,kk H1 s1⟩⟩
theorem d6_:FnOkS P w K mg base 1 T.f41 T.d41 ["_law_e","_law_bound"] (pT_ T.c_NoBound T.c_NoEnds):=by
 refine T.X41.F.okS en_ (fun vs H Q E h=> ?_) (fun cdv A outer s H vs Q E ee hr h=> ?_)
 .obtain⟨_,_,rfl,_⟩:=h;rfl
 .obtain⟨e,bd,rfl,he,kk⟩:=h;refine⟨_,(ac_ (a2_ (fN_ (di_ (aE_ (jZ_ (K:=K) rfl) (by rfl) T.n_isinstance Bw (aa_ (pv 0) (aa_ (aR_ (aa_ (b0_ (v:= .ref T.c_NoDrawing) (by rfl) T.m_NoDrawing (by rfl)) (aa_ (b0_ (v:= .ref T.c_NoNumber) (by rfl) T.m_NoNumber (by rfl)) (aa_ (b0_ (v:= .ref T.c_NoText) (by rfl) T.m_NoText (by rfl)) ab_)))) ab_)))) (dT_ (cQ_ (di_ (aE_ (e1_ (K:=K) rfl) (by rfl) T.n_isinstance Bw (aa_ (pv 0) (aa_ (dG_ (v:= .ty "ValueError") (by rfl) T.n_ValueError PyProof.Rows.Boot.«ValueError» (by rfl)) ab_))))))).pt (af_ (ap_ ex_)) ax_)
   (af_ (ap_ (iK_ (hU_ cf_ (aE_ (e1_ (K:=K) rfl) (by rfl) T.n_isinstance Bw (aa_ (pv 0) (aa_ (b0_ (v:= .ref T.c_NoBound) (by rfl) T.m_NoBound (by rfl)) ab_))) (pv 1) (az_ _)) (gM_ (hU_ qb_ (aE_ (e1_ (K:=K) rfl) (by rfl) T.n_isinstance Bw (aa_ (pv 0) (aa_ (b0_ (v:= .ref T.c_NoEnds) (by rfl) T.m_NoEnds (by rfl)) ab_))) (pv 1) (az_ _))))))), ?_⟩
  refine⟨_,rfl,(by show 3<=sizeLine;decide),fun t H2 nt s2 ht2=> ?_⟩;rcases he with⟨rfl,he⟩|⟨rfl,he⟩
  .have hx:=s2 _ _ he;refine⟨e,_,t,_,_,false,rfl,hx,T.X_NoBound,ht2,rfl,T.ks_NoBound_0,false,rfl,dQ_ ?_⟩;refine⟨_,rfl,e,_, .ty "ValueError",_,true,rfl,hx,T.X_NoBound,rfl,T.k_NoBound_ValueError,true,rfl,dQ_ ?_⟩;refine⟨_,rfl,e,_, .ref T.c_NoBound,_,true,rfl,hx,T.X_NoBound,rfl,T.k_NoBound_NoBound,_,rfl,rfl,_,rfl,d0_ ?_⟩;exact⟨_,rfl,e,_, .ref T.c_NoEnds,_,false,rfl,hx,T.X_NoBound,rfl,T.k_NoBound_NoEnds,_,rfl,rfl,kk H2 s2⟩
  .have hx:=s2 _ _ he;refine⟨e,_,t,_,_,false,rfl,hx,T.X_NoEnds,ht2,rfl,T.ks_NoEnds_1,false,rfl,dQ_ ?_⟩;refine⟨_,rfl,e,_, .ty "ValueError",_,true,rfl,hx,T.X_NoEnds,rfl,T.k_NoEnds_ValueError,true,rfl,dQ_ ?_⟩;refine⟨_,rfl,e,_, .ref T.c_NoBound,_,false,rfl,hx,T.X_NoEnds,rfl,T.k_NoEnds_NoBound,_,rfl,rfl,_,rfl,d0_ ?_⟩;exact⟨_,rfl,e,_, .ref T.c_NoEnds,_,true,rfl,hx,T.X_NoEnds,rfl,T.k_NoEnds_NoEnds,_,rfl,rfl,kk H2 s2⟩
theorem cC_:FnOk P w K mg base CX0 56 T.f42 T.d42 ["_law_by","_law_d","_law_k","_law_held","_law_free","_law_bound"] (pN_ fun g=>g=T.f21\/g=T.f33):=by
 refine T.X42.F.oky cr_ (fun vs H Q E h=> ?_) (fun cdv A outer s H vs Q E hr h hF=> ?_)
 .obtain⟨_,_,_,_,_,_,rfl,_⟩:=h;rfl
 .obtain⟨f,v,u,r1,r2,bd,rfl,hf,bad,kk⟩:=h;refine⟨_,(ac_ (ou_ (i:=6) hF cr_.nd rfl (by trivial) rfl (by rfl) T.m_CurveError (kJ_ (fun pn z=>pv 0) (st_ T rfl rfl rfl rfl rfl (hr.mono (by decide))) (fun pn z=>(aa_ (pv 1) (aa_ (pv 2) (aa_ (pv 3) (aa_ (pv 4) ab_)))))) (fun e=>(af_ (ap_ (mF_ (d6_ T) (hr.mono (by decide)) (by rfl) T.X41.m T.X41.F.kp T.X41.B (aa_ (pv 6) (aa_ (pv 5) ab_)))))))
   (af_ (ap_ ex_))), ?_⟩
  refine⟨fun C _ H'=>((bd=true/\C= .ref T.c_NoBound)\/(bd=false/\C= .ref T.c_NoEnds))/\al_ H H', ?_,fun C e H' ⟨eC,sH⟩ he=> ?_⟩
  .refine⟨f,rfl,hf,_,rfl,_,rfl,_,rfl,_,rfl,v,u,r1,r2,rfl, ?_⟩;rcases bad with⟨eb,tv,tu,hn⟩|⟨eb,d,k,e1,e2,hW,bad⟩
   .exact .inr (.inl ⟨tv,tu,hn, .inl ⟨eb,rfl⟩,al_.refl _⟩)
   .exact .inr (.inr ⟨d,k,e1,e2,hW,bad,fun H' s'=>⟨.inr ⟨eb,rfl⟩,s'⟩⟩)
  .have s2:al_ H (upd H' e (je_ C e)):=sH.trans (al_.new he);have hx:upd H' e (je_ C e) e=some (je_ C e):=ae_;generalize upd H' e (je_ C e)=H2 at s2 hx⊢;rcases eC with⟨rfl,eC⟩|⟨rfl,eC⟩
   .cases eC;exact⟨T.e_NoBound_CurveError,_,rfl,_,rfl,e,true,rfl, .inl ⟨rfl,hx⟩,fun H3 s3=>kk H3 (s2.trans s3)⟩
   .cases eC;exact⟨T.e_NoEnds_CurveError,_,rfl,_,rfl,e,false,rfl, .inr ⟨rfl,hx⟩,fun H3 s3=>kk H3 (s2.trans s3)⟩
theorem cD_:FnOk P w K mg base CX0 10 T.f40 T.d40 ["_law_row","_law_rest"] (pP_ K):=by
 refine T.X40.F.ok bH_ (fun vs H Q E h=> ?_) (fun cdv A outer s H vs Q E hr h=> ?_)
 .obtain⟨_,_,_,_,rfl,_⟩:=h;rfl
 .obtain⟨ra,b,t,z,rfl,ha,⟨tn,tt⟩,t4,rb,hb,z0,kk⟩:=h;refine⟨_,(ac_ (an_ (i:=2) bH_.nd rfl (by trivial) (ah_ (as_ T) (hr.mono (by decide)) (by rfl) T.X36.m T.X36.F.kp T.X36.B .nil ar_ (aa_ (pv 1) (aa_ ad_ ab_))))
   (ac_ (an_ (i:=3) bH_.nd rfl (by trivial) (ah_ (as_ T) (hr.mono (by decide)) (by rfl) T.X36.m T.X36.F.kp T.X36.B .nil ar_ (aa_ (pv 1) (aa_ (aj_ aF_ (aE_ bv_ (by rfl) T.n_len boot_len (aa_ (pv 0) ab_)) ad_) ab_))))
   (ac_ (a2_ (av_ cf_ (pv 2) ad_ (az_ _)) (af_ (ap_ (a4_ bc_ (ew_ (aa_ kS_ (aa_ ad_ (aa_ ev_ (aa_ ex_ (aa_ mA_ ab_)))))) (ah_ (as_ T) (hr.mono (by decide)) (by rfl) T.X36.m T.X36.F.kp T.X36.B .nil ar_ (aa_ (pv 1) (aa_ ad_ ab_))) (fun _ _=>rfl)))) ax_)
   (ac_ (a2_ (av_ cf_ (pv 2) ad_ (az_ _)) (af_ (ap_ (cz_ dv_ (by rfl) T.n_tuple boot_tuple (aa_ (pv 0) ab_)))) ax_)
   (ac_ (a2_ (av_ cf_ (pv 2) ad_ (az_ _)) (af_ (ap_ (aj_ dV_ (aj_ dV_ (bo_ cp_ (pv 0) ce_ (bL_ (pv 3))) (ew_ (aa_ (aj_ aD_ (aj_ aD_ ad_ ad_) (ah_ (as_ T) (hr.mono (by decide)) (by rfl) T.X36.m T.X36.F.kp T.X36.B .nil ar_ (aa_ (pv 1) (aa_ (aj_ dU_ ad_ ad_) ab_)))) ab_))) (bo_ cp_ (pv 0) (bL_ (pv 3)) ce_)))) ax_)
   (ac_ (a2_ (av_ hV_ (pv 2) ad_ (az_ _)) (af_ (ap_ (aj_ dV_ (aj_ dV_ (bo_ cp_ (pv 0) ce_ (bL_ (pv 3))) (ew_ (aa_ (a4_ bc_ (ew_ (aa_ kS_ (aa_ ex_ (aa_ ev_ (aa_ (ew_ (aa_ ad_ ab_)) ab_))))) (aj_ aD_ (pv 2) ad_) (fun _ _=>rfl)) ab_))) (bo_ cp_ (pv 0) (bL_ (pv 3)) ce_)))) ax_)
   (ac_ (a2_ (av_ cf_ (pv 2) ad_ (az_ _)) (af_ (ap_ (aj_ dV_ (pv 0) (ew_ (aa_ ad_ ab_))))) ax_)
   (af_ (ap_ (aj_ dV_ (pv 0) (ew_ (aa_ (aj_ aF_ ad_ (ah_ (as_ T) (hr.mono (by decide)) (by rfl) T.X36.m T.X36.F.kp T.X36.B .nil ar_ (aa_ (pv 1) (aa_ (aj_ dU_ ad_ ad_) ab_)))) ab_)))))))))))), ?_⟩
  refine⟨_,rfl,b,9,z,rfl,hb,z0,by decide,by decide,fun wy z1 w0 w1 z10=> ?_⟩;have hb1:upd H b (.lst [.int z1]) b=some (.lst [.int z1]):=ae_;have ha1:upd H b (.lst [.int z1]) ra=some (.lst (t.map V.int)):=by rw [ak_ rb];exact ha
  have u1:But b H (upd H b (.lst [.int z1])):=But.upd;generalize upd H b (.lst [.int z1])=H1 at hb1 ha1 u1⊢;refine⟨_,rfl,_,rfl,ra,_,rfl, .inl (SqL.of ha1),_,_,rfl,rfl,b,((t.map V.int).length:Int)+1,z1,rfl,hb1,z10,by rw [A1];lia,by rw [A1];lia,fun p z2 p0 p1 z20=> ?_⟩;rw [A1] at p1;obtain⟨n,rfl⟩:=Ao p0;have hn:n<=t.length:=by lia
  have hb2:upd H1 b (.lst [.int z2]) b=some (.lst [.int z2]):=ae_;have ha2:upd H1 b (.lst [.int z2]) ra=some (.lst (t.map V.int)):=by rw [ak_ rb];exact ha1
  have u2:But b H (upd H1 b (.lst [.int z2])):=u1.trans But.upd;generalize upd H1 b (.lst [.int z2])=H2 at hb2 ha2 u2⊢;clear u1 ha1 hb1;have fin:∀(v:V) (z':Int) (Ha Hb:Hp),But b H2 Ha->Ha b=some (.lst [.int z'])->0<=z'->al_ Ha Hb->(dy_ Hb v\/∃x:Int,1<=x/\Is Hb (rwL (t++[x])) v)->Q v Hb:=fun v z' Ha Hb ua hba z'0 sb hv=>kk v z' Hb ((u2.trans ua).trans (But.of_same sb)) (sb _ _ hba) z'0 hv;have m30:(0:Int)<10^(30:Int).toNat/\(10:Int)^(30:Int).toNat<=10^60:=by decide
  refine⟨_,rfl,rfl,_,rfl,gw_ (fun e=> ?_) (fun e0=> ?_)⟩
  .intro q nq;refine⟨(by show 5<=sizeLine;decide),fun l nl=> ?_⟩;have sq:al_ H2 (upd (upd H2 q (.dK [])) l (.lst [V.non, .int 7, .str (Str.ofString "ab"), .bl true, .ref q])):=(al_.new nq).trans (al_.new nl);have hl:upd (upd H2 q (.dK [])) l (.lst [V.non, .int 7, .str (Str.ofString "ab"), .bl true, .ref q]) l=some (.lst [V.non, .int 7, .str (Str.ofString "ab"), .bl true, .ref q]):=ae_;have hq:upd (upd H2 q (.dK [])) l (.lst [V.non, .int 7, .str (Str.ofString "ab"), .bl true, .ref q]) q=some (.dK []):=by
    rw [ak_ (by rintro rfl;rw [ae_] at nl;cases nl),ae_]
   generalize upd (upd H2 q (.dK [])) l (.lst [V.non, .int 7, .str (Str.ofString "ab"), .bl true, .ref q])=H3 at sq hl hq⊢;have hb3:=sq _ _ hb2;refine⟨_,rfl,b,5,z2,rfl,hb3,z20,by decide,by decide,fun c z3 c0 c1 z30=> ?_⟩;have lb:l≠b:=by rintro rfl;rw [hb3] at hl;cases hl
   have qb:q≠b:=by rintro rfl;rw [hb3] at hq;cases hq
   have hl4:upd H3 b (.lst [.int z3]) l=some (.lst [V.non, .int 7, .str (Str.ofString "ab"), .bl true, .ref q]):=by rw [ak_ lb];exact hl
   have hq4:upd H3 b (.lst [.int z3]) q=some (.dK []):=by rw [ak_ qb];exact hq
   have u4:But b H2 (upd H3 b (.lst [.int z3])):=(But.of_same sq).trans But.upd;have hb4:upd H3 b (.lst [.int z3]) b=some (.lst [.int z3]):=ae_;generalize upd H3 b (.lst [.int z3])=H4 at hl4 hq4 u4 hb4⊢;obtain⟨v,hv,nv⟩:∃v,atI [V.non, .int 7, .str (Str.ofString "ab"), .bl true, .ref q] c=some v/\sj_ H4 v:=by
    rcases(show c=0\/c=1\/c=2\/c=3\/c=4 by lia) with rfl|rfl|rfl|rfl|rfl
    .exact⟨_,rfl, .inl ⟨.inr (.inr (.inl rfl)),fun _ _ e=>nomatch e⟩⟩
    .exact⟨_,rfl, .inl ⟨.inl ⟨_,rfl⟩,fun _ _ e=>nomatch e⟩⟩
    .exact⟨_,rfl, .inl ⟨.inr (.inr (.inr (.inl ⟨_,rfl⟩))),fun _ _ e=>nomatch e⟩⟩
    .exact⟨_,rfl, .inl ⟨.inr (.inl ⟨_,rfl⟩),fun _ _ e=>nomatch e⟩⟩
    .exact⟨_,rfl, .inr ⟨q,rfl,hq4⟩⟩
   exact⟨l,_,c,v,rfl,rfl,SqL.of hl4,hv,fin v z3 H4 H4 u4 hb4 z30 (al_.refl _) (.inl (.inl nv))⟩
  refine⟨_,rfl,rfl,_,rfl,gw_ (fun e=> ?_) (fun e1=> ?_)⟩
  .refine⟨_,rfl,ra,_,rfl, .inl ⟨SqL.of ha2,fun l nl=> ?_⟩⟩;refine fin _ z2 H2 _ (fun _ _ e _=>e) hb2 z20 (al_.new nl) (.inl (.inl (.inl ⟨.inr (.inr (.inr (.inr (.inr ⟨l,_,rfl,ae_⟩)))),fun a xs e h=> ?_⟩)));cases e;rw [ae_] at h;cases h
  have c1:go_ (t.map V.int) none (some (n:Int))=(t.map V.int).take n:=jj_;have c2:go_ (t.map V.int) (some (n:Int)) none=(t.map V.int).drop n:=du_ (by rw [A1];exact hn);have tl:((t.map V.int).take n).length<=4:=by rw [Ad,A1];lia
  have dl:((t.map V.int).drop n).length<=4:=by rw [Cp,A1];lia
  have big:∀m,m<=20->m<=sizeLine:=fun m h=>AZ (au_ (by lia));refine⟨_,rfl,rfl,_,rfl,gw_ (fun e=> ?_) (fun e2=> ?_)⟩
  .refine⟨_,rfl,_,rfl,(n:Int),rfl,ra,_,rfl,SqL.of ha2, ?_⟩;rw [c1];intro l1 n1;have h1:upd H2 l1 (.lst ((t.map V.int).take n)) l1=some (.lst ((t.map V.int).take n)):=ae_;have s3:al_ H2 (upd H2 l1 (.lst ((t.map V.int).take n))):=al_.new n1;generalize upd H2 l1 (.lst ((t.map V.int).take n))=H3 at h1 s3⊢;have hb3:=s3 _ _ hb2;have lb:l1≠b:=by rintro rfl;rw [hb2] at n1;cases n1
   refine⟨_,_,rfl,rfl,_,rfl,10,30,rfl,rfl,⟨by decide,by decide,by decide⟩,b,_,z2,rfl,hb3,z20,m30.1,m30.2,fun y z3 y0 y1 z30=>⟨_,_,rfl,rfl,(by show 1<=sizeLine;decide),fun l2 n2=> ?_⟩⟩;have u4:But b H2 (upd H3 b (.lst [.int z3])):=(But.of_same s3).trans But.upd;have hb4:upd H3 b (.lst [.int z3]) b=some (.lst [.int z3]):=ae_;have h14:upd H3 b (.lst [.int z3]) l1=some (.lst ((t.map V.int).take n)):=by rw [ak_ lb];exact h1
   have ha4:upd H3 b (.lst [.int z3]) ra=some (.lst (t.map V.int)):=by rw [ak_ rb];exact s3 _ _ ha2
   generalize upd H3 b (.lst [.int z3])=H4 at u4 hb4 h14 ha4 n2⊢;have s5:al_ H4 (upd H4 l2 (.lst [.int (0-1-y)])):=al_.new n2;have h25:upd H4 l2 (.lst [.int (0-1-y)]) l2=some (.lst [.int (0-1-y)]):=ae_;refine⟨l1,l2,_,_,rfl,rfl,s5 _ _ h14,h25,big _ (by simp only [AL,B8];lia),fun l3 n3=> ?_⟩;have s6:=s5.trans (al_.new (o:= .lst ((t.map V.int).take n++[.int (0-1-y)])) n3);refine⟨_,rfl,_,rfl,(n:Int),rfl,ra,_,rfl,SqL.of (s6 _ _ ha4), ?_⟩;rw [c2];intro l4 n4;have s7:=s6.trans (al_.new (o:= .lst ((t.map V.int).drop n)) n4);refine⟨l3,l4,_,_,rfl,rfl,(by rw [ak_ (by rintro rfl;rw [ae_] at n4;cases n4)];exact ae_),ae_,big _ (by rw [AB];simp only [AL,B8];lia),fun l5 n5=> ?_⟩;exact fin _ z3 H4 _ u4 hb4 z30 (s7.trans (al_.new n5)) (.inl (k3_ ae_ tn hn (.inl ⟨_,rfl⟩) fun m em=>by have:=V.int.inj em;lia))
  refine⟨_,rfl,_,_,rfl,rfl,_,rfl,ee_ (fun e=> ?_) (fun e3=> ?_)⟩
  .refine⟨_,rfl,_,rfl,(n:Int),rfl,ra,_,rfl,SqL.of ha2, ?_⟩;rw [c1];intro l1 n1;have h1:upd H2 l1 (.lst ((t.map V.int).take n)) l1=some (.lst ((t.map V.int).take n)):=ae_;have s3:al_ H2 (upd H2 l1 (.lst ((t.map V.int).take n))):=al_.new n1;generalize upd H2 l1 (.lst ((t.map V.int).take n))=H3 at h1 s3⊢;refine⟨(by show 1<=sizeLine;decide),fun q1 m1=>⟨(by show 4<=sizeLine;decide),fun q2 m2=> ?_⟩⟩;have s4:=(al_.new (o:= .lst [.int 1]) m1).trans (al_.new (o:= .lst [V.non, .bl true, .str (Str.ofString "1"), .ref q1]) m2);have hq2:upd (upd H3 q1 (.lst [.int 1])) q2 (.lst [V.non, .bl true, .str (Str.ofString "1"), .ref q1]) q2=some (.lst [V.non, .bl true, .str (Str.ofString "1"), .ref q1]):=ae_;have hq1:upd (upd H3 q1 (.lst [.int 1])) q2 (.lst [V.non, .bl true, .str (Str.ofString "1"), .ref q1]) q1=some (.lst [.int 1]):=by
    rw [ak_ (by rintro rfl;rw [ae_] at m2;cases m2),ae_]
   generalize upd (upd H3 q1 (.lst [.int 1])) q2 (.lst [V.non, .bl true, .str (Str.ofString "1"), .ref q1])=H4 at s4 hq2 hq1⊢;obtain⟨v,hv,tv,nv⟩:∃v,atI [V.non, .bl true, .str (Str.ofString "1"), .ref q1] (wy-3)=some v/\be_ H4 v/\∀m:Int,v= .int m->m<0:=by
    rcases(show wy=3\/wy=4\/wy=5\/wy=6 by lia) with rfl|rfl|rfl|rfl
    .exact⟨_,rfl, .inr (.inr (.inl rfl)),fun m em=>nomatch em⟩
    .exact⟨_,rfl, .inr (.inl ⟨_,rfl⟩),fun m em=>nomatch em⟩
    .exact⟨_,rfl, .inr (.inr (.inr (.inl ⟨_,rfl⟩))),fun m em=>nomatch em⟩
    .exact⟨_,rfl, .inr (.inr (.inr (.inr (.inl ⟨q1,_,rfl,hq1⟩)))),fun m em=>nomatch em⟩
   refine⟨_,rfl,_,_,rfl,rfl,q2,_,_,v,rfl,rfl,SqL.of hq2,hv,(by show 1<=sizeLine;decide),fun l2 n2=> ?_⟩;have s24:=s3.trans s4;have s5:al_ H4 (upd H4 l2 (.lst [v])):=al_.new n2;have h25:upd H4 l2 (.lst [v]) l2=some (.lst [v]):=ae_;refine⟨l1,l2,_,_,rfl,rfl,s5 _ _ (s4 _ _ h1),h25,big _ (by simp only [AL,B8];lia),fun l3 n3=> ?_⟩;have s6:=s5.trans (al_.new (o:= .lst ((t.map V.int).take n++[v])) n3);refine⟨_,rfl,_,rfl,(n:Int),rfl,ra,_,rfl,SqL.of (s6 _ _ (s24 _ _ ha2)), ?_⟩;rw [c2];intro l4 n4;have s7:=s6.trans (al_.new (o:= .lst ((t.map V.int).drop n)) n4);refine⟨l3,l4,_,_,rfl,rfl,(by rw [ak_ (by rintro rfl;rw [ae_] at n4;cases n4)];exact ae_),ae_,big _ (by rw [AB];simp only [AL,B8];lia),fun l5 n5=> ?_⟩;have s8:=s7.trans (al_.new (o:= .lst ((t.map V.int).take n++[v]++(t.map V.int).drop n)) n5);exact fin _ z2 H2 _ (fun _ _ e _=>e) hb2 z20 (s24.trans s8) (.inl (k3_ ae_ tn hn (tv.mono s8) nv))
  refine⟨_,rfl,rfl,_,rfl,gw_ (fun e=> ?_) (fun e4=> ?_)⟩
  .refine⟨_,rfl,(by show 1<=sizeLine;decide),fun l1 n1=> ?_⟩;refine⟨ra,l1,_,_,rfl,rfl,(al_.new n1) _ _ ha2,ae_,big _ (by rw [A1];simp only [AL,B8];lia),fun l2 n2=> ?_⟩;refine fin _ z2 H2 _ (fun _ _ e _=>e) hb2 z20 ((al_.new n1).trans (al_.new n2)) (.inl (.inr (.inr ⟨l2,t,rfl, ?_,tn⟩)));rw [ae_,AH];rfl
  refine⟨_,rfl,_,rfl,10,30,rfl,rfl,⟨by decide,by decide,by decide⟩,b,_,z2,rfl,hb2,z20,m30.1,m30.2,fun y z3 y0 y1 z30=>⟨_,_,rfl,rfl,(by show 1<=sizeLine;decide),fun l1 n1=> ?_⟩⟩;have u4:But b H2 (upd H2 b (.lst [.int z3])):=But.upd;have hb4:upd H2 b (.lst [.int z3]) b=some (.lst [.int z3]):=ae_;have ha4:upd H2 b (.lst [.int z3]) ra=some (.lst (t.map V.int)):=by rw [ak_ rb];exact ha2
  generalize upd H2 b (.lst [.int z3])=H4 at u4 hb4 ha4 n1⊢;refine⟨ra,l1,_,_,rfl,rfl,(al_.new n1) _ _ ha4,ae_,big _ (by rw [A1];simp only [AL,B8];lia),fun l2 n2=> ?_⟩;refine fin _ z3 H4 _ u4 hb4 z30 ((al_.new n1).trans (al_.new n2)) (.inr ⟨1+y,by lia,bQ_ ?_⟩);rw [ae_,AH];rfl
theorem pw_ {t:List Int}{x:Int} (h:1<=x):wtF t<wtF (t++[x]):=by
 unfold wtF;rw [io_];have:=Int.mul_pos (show 0<1+(t.length:Int) by lia) (show 0<x by lia);lia
theorem qe_:FnOk P w K mg base CX0 58 T.f44 T.d44 ["_law_script"] (iz_ K):=by
 refine T.X44.F.ok bg_ (fun vs H Q E h=> ?_) (fun cdv A outer s H vs Q E hr h=> ?_)
 .obtain⟨_,_,rfl,_⟩:=h;rfl
 .obtain⟨a,ns,rfl,hS,hl,kk⟩:=h;refine⟨_,(ac_ (an_ (i:=1) bg_.nd rfl (by trivial) (aw_ (aa_ (ah_ (dq_ T) (hr.mono (by decide)) (by rfl) T.X35.m T.X35.F.kp T.X35.B .nil ar_ (aa_ (ah_ (cE_ T) (hr.mono (by decide)) (by rfl) T.X34.m T.X34.F.kp T.X34.B .nil ar_ (aa_ (pv 0) (aa_ ad_ ab_))) ab_)) ab_)))
   (ac_ (an_ (i:=2) bg_.nd rfl (by trivial) (aj_ aF_ ad_ (ah_ (as_ T) (hr.mono (by decide)) (by rfl) T.X36.m T.X36.F.kp T.X36.B .nil ar_ (aa_ (pv 1) (aa_ ad_ ab_)))))
   (ac_ (an_ (i:=3) bg_.nd rfl (by trivial) (ah_ (as_ T) (hr.mono (by decide)) (by rfl) T.X36.m T.X36.F.kp T.X36.B .nil ar_ (aa_ (pv 1) (aa_ ad_ ab_))))
   (ac_ (iH_ (ah_ (gP_ T) (hr.mono (by decide)) (by rfl) T.X37.m T.X37.F.kp T.X37.B .nil ar_ (aa_ (pv 1) (aa_ (pv 2) ab_))) (bM_ rfl (aq_ (am_ (i:=4) bg_.nd rfl (by trivial)) (aq_ (am_ (i:=5) bg_.nd rfl (by trivial)) a5_))))
   (ac_ (an_ (i:=4) bg_.nd rfl (by trivial) (ah_ (cB_ T) (hr.mono (by decide)) (by rfl) T.X38.m T.X38.F.kp T.X38.B .nil ar_ (aa_ (pv 4) ab_)))
   (ac_ (an_ (i:=5) bg_.nd rfl (by trivial) (ah_ (cB_ T) (hr.mono (by decide)) (by rfl) T.X38.m T.X38.F.kp T.X38.B .nil ar_ (aa_ (pv 5) ab_)))
   (ac_ (a2_ (fN_ (cQ_ (di_ (ah_ (dY_ T) (hr.mono (by decide)) (by rfl) T.X43.m T.X43.F.kp T.X43.B .nil ar_ (aa_ (b0_ (v:= .ref T.f21) (by rfl) T.X21.m (by rfl)) (aa_ (pv 2) (aa_ (pv 3) (aa_ (pv 4) (aa_ (pv 5) ab_)))))))) (dT_ (cQ_ (di_ (ah_ (dY_ T) (hr.mono (by decide)) (by rfl) T.X43.m T.X43.F.kp T.X43.B .nil ar_ (aa_ (b0_ (v:= .ref T.f33) (by rfl) T.X33.m (by rfl)) (aa_ (pv 2) (aa_ (pv 3) (aa_ (pv 4) (aa_ (pv 5) ab_)))))))))).pt (af_ (ap_ ex_)) ax_)
   (ac_ (an_ (i:=1) bg_.nd rfl (by trivial) (aw_ (aa_ (ah_ (dq_ T) (hr.mono (by decide)) (by rfl) T.X35.m T.X35.F.kp T.X35.B .nil ar_ (aa_ (ah_ (cE_ T) (hr.mono (by decide)) (by rfl) T.X34.m T.X34.F.kp T.X34.B .nil ar_ (aa_ (pv 0) (aa_ ad_ ab_))) ab_)) ab_)))
   (ac_ (an_ (i:=6) bg_.nd rfl (by trivial) (ah_ (as_ T) (hr.mono (by decide)) (by rfl) T.X36.m T.X36.F.kp T.X36.B .nil ar_ (aa_ (pv 1) (aa_ ad_ ab_))))
   (ac_ (an_ (i:=7) bg_.nd rfl (by trivial) (ah_ (as_ T) (hr.mono (by decide)) (by rfl) T.X36.m T.X36.F.kp T.X36.B .nil ar_ (aa_ (pv 1) (aa_ ad_ ab_))))
   (ac_ (an_ (i:=8) bg_.nd rfl (by trivial) ex_)
   (ac_ (nz_ (a2_ (fN_ (av_ kZ_ (pv 7) ad_ (az_ _)) (dT_ (av_ cf_ (pv 6) ad_ (az_ _)))).pt (af_ (a2_ (av_ cf_ (ah_ (as_ T) (hr.mono (by decide)) (by rfl) T.X36.m T.X36.F.kp T.X36.B .nil ar_ (aa_ (pv 1) (aa_ ad_ ab_))) ad_ (az_ _)) (af_ (an_ (i:=4) bg_.nd rfl (by trivial) (ah_ (cD_ T) (hr.mono (by decide)) (by rfl) T.X40.m T.X40.F.kp T.X40.B .nil ar_ (aa_ (pv 4) (aa_ (pv 1) ab_))))) (af_ (an_ (i:=5) bg_.nd rfl (by trivial) (ah_ (cD_ T) (hr.mono (by decide)) (by rfl) T.X40.m T.X40.F.kp T.X40.B .nil ar_ (aa_ (pv 5) (aa_ (pv 1) ab_))))))) ax_))
   (ac_ (nz_ (a2_ (fN_ (av_ hV_ (pv 7) ad_ (az_ _)) (dT_ (av_ cf_ (pv 6) ad_ (az_ _)))).pt (ac_ (an_ (i:=8) bg_.nd rfl (by trivial) ex_)
   (af_ (a2_ (av_ cf_ (aj_ gN_ (pv 7) ad_) ad_ (az_ _)) (af_ (an_ (i:=2) bg_.nd rfl (by trivial) (ah_ (eF_ T) (hr.mono (by decide)) (by rfl) T.X39.m T.X39.F.kp T.X39.B .nil ar_ (aa_ (pv 1) (aa_ ad_ (aa_ ad_ ab_)))))) (af_ (a2_ (av_ cf_ (ah_ (as_ T) (hr.mono (by decide)) (by rfl) T.X36.m T.X36.F.kp T.X36.B .nil ar_ (aa_ (pv 1) (aa_ ad_ ab_))) ad_ (az_ _)) (ac_ (an_ (i:=2) bg_.nd rfl (by trivial) ad_)
   (af_ (an_ (i:=3) bg_.nd rfl (by trivial) (aj_ aF_ ad_ (ah_ (as_ T) (hr.mono (by decide)) (by rfl) T.X36.m T.X36.F.kp T.X36.B .nil ar_ (aa_ (pv 1) (aa_ ad_ ab_))))))) (af_ (an_ (i:=3) bg_.nd rfl (by trivial) (ah_ (eF_ T) (hr.mono (by decide)) (by rfl) T.X39.m T.X39.F.kp T.X39.B .nil ar_ (aa_ (pv 1) (aa_ ad_ (aa_ ad_ ab_))))))))))) ax_))
   (af_ (ap_ (iK_ (ah_ (cC_ T) (hr.mono (by decide)) (by rfl) T.X42.m T.X42.F.kp T.X42.B .nil ar_ (aa_ (b0_ (v:= .ref T.f21) (by rfl) T.X21.m (by rfl)) (aa_ (pv 2) (aa_ (pv 3) (aa_ (pv 4) (aa_ (pv 5) (aa_ (pv 8) ab_))))))) (gM_ (ah_ (cC_ T) (hr.mono (by decide)) (by rfl) T.X42.m T.X42.F.kp T.X42.B .nil ar_ (aa_ (b0_ (v:= .ref T.f33) (by rfl) T.X33.m (by rfl)) (aa_ (pv 2) (aa_ (pv 3) (aa_ (pv 4) (aa_ (pv 5) (aa_ (pv 8) ab_)))))))))))))))))))))))), ?_⟩
  refine⟨_,rfl,a,ns,0,rfl,hS,by decide,fun x=>⟨x,rfl,fun z z0=>⟨(by show 1<=sizeLine;decide),fun b H1 nb s1 hb=> ?_⟩⟩⟩;refine⟨_,rfl,b,4,z,rfl,hb,z0,by decide,by decide,fun y z1 y0 y1 z10=>⟨_,_,rfl,rfl, ?_⟩⟩;obtain⟨d,hd⟩:=Ao (show 0<=1+y by lia);have e1:(fun i j=>V.int (i+j)) 1 y=V.int (d:Int):=by rw [<-hd]
  rw [e1];have d1:1<=d:=by lia
  have d4:d<=4:=by lia
  have s02:al_ H (upd H1 b (.lst [.int z1])):=s1.put nb;have hb2:upd H1 b (.lst [.int z1]) b=some (.lst [.int z1]):=ae_;generalize upd H1 b (.lst [.int z1])=H2 at s02 hb2⊢;refine⟨_,rfl,b,7,z1,rfl,hb2,z10,by decide,by decide,fun k0 z2 k00 k1 z20=> ?_⟩;obtain⟨k,rfl⟩:=Ao k00;have hW:W4 d k:=⟨d1,d4,by lia⟩;have s03:al_ H (upd H2 b (.lst [.int z2])):=s02.put nb;have hb3:upd H2 b (.lst [.int z2]) b=some (.lst [.int z2]):=ae_;generalize upd H2 b (.lst [.int z2])=H3 at s03 hb3⊢;refine⟨_,rfl,_,rfl,b,d,z2,rfl,hb3,z20,d1,by lia,fun t l1 l2 hh ff H5 but5 nt nl1 nl2 l12 ht h1 h2 hhl ffl hn fn wt=> ?_⟩;have b05:al_ H H5:=But.same s03 nb but5;obtain⟨r1,r2,r3,r4⟩:=nl_ hhl hn (by lia);obtain⟨q1,q2,q3,q4⟩:=nl_ ffl fn (by lia);have wt':wtF (trF hh)+wtF (trF ff)=(d:Int):=by rw [r4,q4];exact wt
  refine⟨t,_,rfl,SqT.of ht,rfl,_,_,rfl,_,_,rfl,rfl, ?_⟩;refine⟨_,rfl, .ref l1,hh,rfl,bQ_ h1,by lia,fun t1 H6 s6 nt1 ht1=>⟨_,rfl, .ref l2,ff,rfl,(bQ_ h2).mono s6,by lia,fun t2 H7 s7 nt2 ht2=> ?_⟩⟩;have j1:=ht1.mono s7;refine⟨_,rfl,_,rfl,_,rfl,_,rfl,T.f21,d,k, .ref t1, .ref t2,trF hh,trF ff,rfl, .inl rfl,hW,j1,ht2,r1,q1,wt',r2,q2,fun H8 s8=>⟨true,rfl,dQ_ ⟨_,rfl,_,rfl,_,rfl,_,rfl,T.f33,d,k, .ref t1, .ref t2,trF hh,trF ff,rfl, .inr rfl,hW,j1.mono s8,ht2.mono s8,r1,q1,wt',r2,q2,fun H9 s9=>⟨true,rfl,dQ_ ?_⟩⟩⟩⟩;have k1:=(j1.mono s8).mono s9;have k2:=(ht2.mono s8).mono s9;have s09:al_ H H9:=(((b05.trans s6).trans s7).trans s8).trans s9;generalize trF hh=th at r1 r2 wt' k1;generalize trF ff=tf at q1 q2 wt' k2;clear j1 ht2 ht1 r3 r4 q3 q4;obtain⟨_,e,ht1⟩:=bO_ k1;cases e;obtain⟨_,e,ht2⟩:=bO_ k2;cases e;refine⟨_,rfl,a,ns,1,rfl,s09.seq hS,by decide,fun x2=>⟨x2,rfl,fun y z0=>⟨(by show 1<=sizeLine;decide),fun c HA nc sA hc=> ?_⟩⟩⟩;have t1c:t1≠c:=by rintro rfl;rw [ht1] at nc;cases nc
  have t2c:t2≠c:=by rintro rfl;rw [ht2] at nc;cases nc
  refine⟨_,rfl,c,4,y,rfl,hc,z0,by decide,by decide,fun bo z3 b0 b4 z30=> ?_⟩;have sB:al_ H9 (upd HA c (.lst [.int z3])):=sA.put nc;have hcB:upd HA c (.lst [.int z3]) c=some (.lst [.int z3]):=ae_;generalize upd HA c (.lst [.int z3])=HB at sB hcB⊢;refine⟨_,rfl,c,4,z3,rfl,hcB,z30,by decide,by decide,fun wy z4 w0 w4 z40=> ?_⟩;have sC:al_ H9 (upd HB c (.lst [.int z4])):=sB.put nc;have hcC:upd HB c (.lst [.int z4]) c=some (.lst [.int z4]):=ae_;generalize upd HB c (.lst [.int z4])=HC at sC hcC⊢;refine⟨fun σ H2=>∃v4 v5 z5,σ=[some (.ref a),some (.ref c),some (.int d),some (.int k),some v4,some v5,some (.int bo),some (.int wy),some (.bl false)]/\H2 c=some (.lst [.int z5])/\0<=z5/\((wy<2/\bo≠3)\/Bad d H2 v4 v5), ?_, ?_⟩
  .refine⟨_,rfl,_,_,rfl,rfl,_,rfl,ee_ (fun h=>d0_ ?br1) (fun h=>⟨_,rfl,rfl,_,rfl,gw_ (fun e=> ?br2) (fun e=> ?nb)⟩)⟩;case nb=>exact⟨.ref t1, .ref t2,z4,rfl,hcC,z40, .inl ⟨by lia,fun z=>e (by rw [z])⟩⟩
   case br1|br2=>
    refine⟨_,rfl,c,2,z4,rfl,hcC,z40,by decide,by decide,fun g z5 g0 g1 z50=> ?_⟩;have sD':al_ H9 (upd HC c (.lst [.int z5])):=sC.put nc;have hcD:upd HC c (.lst [.int z5]) c=some (.lst [.int z5]):=ae_;generalize upd HC c (.lst [.int z5])=HD at sD' hcD⊢;refine⟨rfl,_,rfl,gw_ (fun e=> ?_) (fun e=> ?_)⟩
    .refine⟨_,rfl,_,rfl,t1,c,th,z5,rfl,sD' _ _ ht1,r1.inn,by lia,t1c,hcD,z50,fun v z6 HE uE hcE z60 hv=>⟨v, .ref t2,z6,rfl,hcE,z60, .inr ?_⟩⟩;rcases hv with hv|⟨x,x1,hv⟩
     .exact .inl hv
     .refine .inr (.inr ⟨th++[x],tf,hv,bQ_ (uE _ _ (sD' _ _ ht2) t2c),⟨fY_ r1.1 (by lia), .inr ⟨th,x,rfl,by lia⟩⟩,q1.inn,by rw [AB];simp only [AL,B8];lia,q1.2.1, ?_⟩);have:=pw_ (t:=th) x1;lia
    .refine⟨_,rfl,_,rfl,t2,c,tf,z5,rfl,sD' _ _ ht2,q1.inn,by lia,t2c,hcD,z50,fun v z6 HE uE hcE z60 hv=>⟨.ref t1,v,z6,rfl,hcE,z60, .inr ?_⟩⟩;have i1:=bQ_ (uE _ _ (sD' _ _ ht1) t1c);rcases hv with hv|⟨x,x1,hv⟩
     .exact .inr (.inl ⟨th,i1,r1.inn,hv⟩)
     .refine .inr (.inr ⟨th,tf++[x],i1,hv,r1.inn,⟨fY_ q1.1 (by lia), .inr ⟨tf,x,rfl,by lia⟩⟩,r1.2.1,by rw [AB];simp only [AL,B8];lia, ?_⟩);have:=pw_ (t:=tf) x1;lia
  rintro σ HE ⟨v4,v5,z5,rfl,hcE,z50,st⟩;refine⟨fun σ H2=>∃v u bd,σ=[some (.ref a),some (.ref c),some v,some u,some v4,some v5,some (.int bo),some (.int wy),some (.bl bd)]/\hy_ bd H2 v u v4 v5, ?_, ?_⟩
  .refine⟨_,rfl,_,_,rfl,rfl,_,rfl,ee_ (fun h=>d0_ ?br1) (fun h=>⟨_,rfl,rfl,_,rfl,gw_ (fun e=> ?br2) (fun e=> ?nb)⟩)⟩;case nb=>
    rcases st with⟨h1,_⟩|bad
    .exact absurd h1 h
    .exact⟨.int d, .int k,false,rfl, .inr ⟨rfl,d,k,rfl,rfl,hW.wide,bad⟩⟩
   case br1|br2=>
    refine⟨_,rfl,_,_,rfl,rfl,(show(0:Int)<2 by decide),rfl,_,rfl,gw_ (fun e=> ?_) (fun e=> ?_)⟩
    .exact⟨_,rfl,c,1,5,z5,rfl,hcE,z50,fun v HF _ tv nw=>⟨v, .int k,true,rfl, .inl ⟨rfl,tv,be_.int,fun⟨d2,k2,e1,_,hN⟩=>nw ⟨_,e1,by unfold Wide at hN;lia,by unfold Wide at hN;lia⟩⟩⟩⟩
    refine⟨_,rfl,c,3,z5,rfl,hcE,z50,by decide,by decide,fun g z6 g0 g1 z60=> ?_⟩;have hcF:upd HE c (.lst [.int z6]) c=some (.lst [.int z6]):=ae_;generalize upd HE c (.lst [.int z6])=HF at hcF⊢;refine⟨rfl,_,rfl,gw_ (fun e=> ?_) (fun e=> ?_)⟩
    .refine⟨_,rfl,c,3,z6,rfl,hcF,z60,by decide,by decide,fun g z7 g0 g1 z70=>⟨_,_,rfl,rfl, .int 5, .int (4+g),true,rfl, .inl ⟨rfl,be_.int,be_.int,fun⟨d2,k2,e1,e2,hN⟩=> ?_⟩⟩⟩;have:=V.int.inj e1;have:=V.int.inj e2;unfold Wide at hN;lia
    .exact⟨_,rfl,c,0,6,z6,rfl,hcF,z60,fun v HG _ tv nw=>⟨.int d,v,true,rfl, .inl ⟨rfl,be_.int,tv,fun⟨d2,k2,_,e2,hN⟩=>nw ⟨_,e2,by lia,by unfold Wide at hN;lia⟩⟩⟩⟩
  rintro σ HF ⟨v,u,bd,rfl,bad⟩;exact⟨_,rfl,_,rfl,_,rfl,_,rfl,_,rfl,T.f21,v,u,v4,v5,bd,rfl, .inl rfl,bad,fun HG sG=>⟨true,rfl,d0_ ⟨_,rfl,_,rfl,_,rfl,_,rfl,_,rfl,T.f33,v,u,v4,v5,bd,rfl, .inr rfl,bad.mono sG,fun HH sH=>kk HH⟩⟩⟩
end
theorem fb1 {K:W.Frag}{mg:Str->Option Value}{n:Str}{st:Stmt}{ps:List Str}{f:Addr}{d:FuncData} (F:Fun K n n st f d) (e:mg n=some (.ref f)) (hp:ps.length=1) (h:∀(kV dc pm:Value) (an:Option Addr) (cd ct x0:Value),bindArgs (W.fnOf n n (bR_ st) (bd_ st) (ag_ st) .none kV dc pm an cd ct) ⟨[x0],[]⟩=pure (ps.zip [x0])):Fb K mg n st ps f d:=by
 refine⟨F,F.binds fun kV dc pm an cd ct us hl=> ?_,e⟩;rw [hp] at hl;rcases us with _|⟨x0,us⟩
 .simp at hl
 rcases us with _|⟨y,us⟩
 .exact h kV dc pm an cd ct x0
 .simp at hl
theorem fb2 {K:W.Frag}{mg:Str->Option Value}{n:Str}{st:Stmt}{ps:List Str}{f:Addr}{d:FuncData} (F:Fun K n n st f d) (e:mg n=some (.ref f)) (hp:ps.length=2) (h:∀(kV dc pm:Value) (an:Option Addr) (cd ct x0 x1:Value),bindArgs (W.fnOf n n (bR_ st) (bd_ st) (ag_ st) .none kV dc pm an cd ct) ⟨[x0,x1],[]⟩=pure (ps.zip [x0,x1])):Fb K mg n st ps f d:=by
 refine⟨F,F.binds fun kV dc pm an cd ct us hl=> ?_,e⟩;rw [hp] at hl;rcases us with _|⟨x0,us⟩
 .simp at hl
 rcases us with _|⟨x1,us⟩
 .simp at hl
 rcases us with _|⟨y,us⟩
 .exact h kV dc pm an cd ct x0 x1
 .simp at hl
theorem fb3 {K:W.Frag}{mg:Str->Option Value}{n:Str}{st:Stmt}{ps:List Str}{f:Addr}{d:FuncData} (F:Fun K n n st f d) (e:mg n=some (.ref f)) (hp:ps.length=3) (h:∀(kV dc pm:Value) (an:Option Addr) (cd ct x0 x1 x2:Value),bindArgs (W.fnOf n n (bR_ st) (bd_ st) (ag_ st) .none kV dc pm an cd ct) ⟨[x0,x1,x2],[]⟩=pure (ps.zip [x0,x1,x2])):Fb K mg n st ps f d:=by
 refine⟨F,F.binds fun kV dc pm an cd ct us hl=> ?_,e⟩;rw [hp] at hl;rcases us with _|⟨x0,us⟩
 .simp at hl
 rcases us with _|⟨x1,us⟩
 .simp at hl
 rcases us with _|⟨x2,us⟩
 .simp at hl
 rcases us with _|⟨y,us⟩
 .exact h kV dc pm an cd ct x0 x1 x2
 .simp at hl
theorem fb4 {K:W.Frag}{mg:Str->Option Value}{n:Str}{st:Stmt}{ps:List Str}{f:Addr}{d:FuncData} (F:Fun K n n st f d) (e:mg n=some (.ref f)) (hp:ps.length=4) (h:∀(kV dc pm:Value) (an:Option Addr) (cd ct x0 x1 x2 x3:Value),bindArgs (W.fnOf n n (bR_ st) (bd_ st) (ag_ st) .none kV dc pm an cd ct) ⟨[x0,x1,x2,x3],[]⟩=pure (ps.zip [x0,x1,x2,x3])):Fb K mg n st ps f d:=by
 refine⟨F,F.binds fun kV dc pm an cd ct us hl=> ?_,e⟩;rw [hp] at hl;rcases us with _|⟨x0,us⟩
 .simp at hl
 rcases us with _|⟨x1,us⟩
 .simp at hl
 rcases us with _|⟨x2,us⟩
 .simp at hl
 rcases us with _|⟨x3,us⟩
 .simp at hl
 rcases us with _|⟨y,us⟩
 .exact h kV dc pm an cd ct x0 x1 x2 x3
 .simp at hl
theorem fb5 {K:W.Frag}{mg:Str->Option Value}{n:Str}{st:Stmt}{ps:List Str}{f:Addr}{d:FuncData} (F:Fun K n n st f d) (e:mg n=some (.ref f)) (hp:ps.length=5) (h:∀(kV dc pm:Value) (an:Option Addr) (cd ct x0 x1 x2 x3 x4:Value),bindArgs (W.fnOf n n (bR_ st) (bd_ st) (ag_ st) .none kV dc pm an cd ct) ⟨[x0,x1,x2,x3,x4],[]⟩=pure (ps.zip [x0,x1,x2,x3,x4])):Fb K mg n st ps f d:=by
 refine⟨F,F.binds fun kV dc pm an cd ct us hl=> ?_,e⟩;rw [hp] at hl;rcases us with _|⟨x0,us⟩
 .simp at hl
 rcases us with _|⟨x1,us⟩
 .simp at hl
 rcases us with _|⟨x2,us⟩
 .simp at hl
 rcases us with _|⟨x3,us⟩
 .simp at hl
 rcases us with _|⟨x4,us⟩
 .simp at hl
 rcases us with _|⟨y,us⟩
 .exact h kV dc pm an cd ct x0 x1 x2 x3 x4
 .simp at hl
theorem fb6 {K:W.Frag}{mg:Str->Option Value}{n:Str}{st:Stmt}{ps:List Str}{f:Addr}{d:FuncData} (F:Fun K n n st f d) (e:mg n=some (.ref f)) (hp:ps.length=6) (h:∀(kV dc pm:Value) (an:Option Addr) (cd ct x0 x1 x2 x3 x4 x5:Value),bindArgs (W.fnOf n n (bR_ st) (bd_ st) (ag_ st) .none kV dc pm an cd ct) ⟨[x0,x1,x2,x3,x4,x5],[]⟩=pure (ps.zip [x0,x1,x2,x3,x4,x5])):Fb K mg n st ps f d:=by
 refine⟨F,F.binds fun kV dc pm an cd ct us hl=> ?_,e⟩;rw [hp] at hl;rcases us with _|⟨x0,us⟩
 .simp at hl
 rcases us with _|⟨x1,us⟩
 .simp at hl
 rcases us with _|⟨x2,us⟩
 .simp at hl
 rcases us with _|⟨x3,us⟩
 .simp at hl
 rcases us with _|⟨x4,us⟩
 .simp at hl
 rcases us with _|⟨x5,us⟩
 .simp at hl
 rcases us with _|⟨y,us⟩
 .exact h kV dc pm an cd ct x0 x1 x2 x3 x4 x5
 .simp at hl
def Hf (K:W.Frag) (n:Str) (st:Stmt) (f:Addr):Prop:=W.nsIn K mainGlobals n=some (some (.ref f))/\∃d,Fun K n n st f d
theorem sc_ {K:W.Frag}{n:Str}{st:Stmt}{f:Addr}{od an:Option Addr}{sl:Array (Option Value)}{oc kV dc pm cd ct:Value} (a:W.nsIn K mainGlobals n=some (some (.ref f))) (l:K.lookup f=some ⟨oc,od, .func (W.fnOf n n (bR_ st) (bd_ st) (ag_ st) .none kV dc pm an cd ct),sl⟩) (c:W.codeIn K cd n=true) (k:W.keepIn K (.ref f)=true):Hf K n st f:=⟨a,_,qF_ l c k⟩
theorem qZ_ {l:W.OpenLaw}{w:World}{K:W.Frag}{h:Heap}{mg:Str->Option Value}{fa:Addr} (X:K.In h) (G:h.Ns mainGlobals mg) (hfa:mg "law"=some (.ref fa))
  {f0 f1 f2 f3 f4 f5 f6 f7 f8 f9 f10 f11 f12 f13 f14 f15 f16 f17 f18 f19 f20 f21 f22 f23 f24 f25 f26 f27 f28 f29 f30 f31 f32 f33 f34 f35 f36 f37 f38 f39 f40 f41 f42 f43 f44:Addr}
  (h0:Hf K "is_whole" dA_ f0)
  (h1:Hf K "need_between" bU_ f1)
  (h2:Hf K "need_wide" cZ_ f2)
  (h3:Hf K "need_degree" cc_ f3)
  (h4:Hf K "choose" fJ_ f4)
  (h5:Hf K "is_row" fI_ f5)
  (h6:Hf K "row_weight" br_ f6)
  (h7:Hf K "need_rows" c0_ f7)
  (h8:Hf K "weights_of" cs_ f8)
  (h9:Hf K "with_more" cY_ f9)
  (h10:Hf K "product_of" ct_ f10)
  (h11:Hf K "filled_up" c1_ f11)
  (h12:Hf K "rows_within" bB_ f12)
  (h13:Hf K "rows_beyond" ca_ f13)
  (h14:Hf K "choices" es_ f14)
  (h15:Hf K "weights_gained" bw_ f15)
  (h16:Hf K "with_one_held" bI_ f16)
  (h17:Hf K "with_one_degree_fewer" aT_ f17)
  (h18:Hf K "summands" dz_ f18)
  (h19:Hf K "counted" er_ f19)
  (h20:Hf K "asked_of" dC_ f20)
  (h21:Hf K "by_ends" et_ f21)
  (h22:Hf K "ends_at" eq_ f22)
  (h23:Hf K "lost" kw_ f23)
  (h24:Hf K "lifts_from" cu_ f24)
  (h25:Hf K "leaving" ep_ f25)
  (h26:Hf K "with_floor" bq_ f26)
  (h27:Hf K "drawings" cJ_ f27)
  (h28:Hf K "worth" hO_ f28)
  (h29:Hf K "put_between" cb_ f29)
  (h30:Hf K "how_many_orders" bm_ f30)
  (h31:Hf K "free_placings" bK_ f31)
  (h32:Hf K "how_many_held" bJ_ f32)
  (h33:Hf K "by_ended" dB_ f33)
  (h34:Hf K "_law_cell_at" bZ_ f34)
  (h35:Hf K "_law_great" cv_ f35)
  (h36:Hf K "_law_digit" cw_ f36)
  (h37:Hf K "_law_rows" c3_ f37)
  (h38:Hf K "_law_trimmed" bV_ f38)
  (h39:Hf K "_law_odd" dD_ f39)
  (h40:Hf K "_law_odd_row" bY_ f40)
  (h41:Hf K "_law_of_kind" bX_ f41)
  (h42:Hf K "_law_refuses" bW_ f42)
  (h43:Hf K "_law_told" c2_ f43)
  (h44:Hf K "law" or_ f44)
  (zz:∀n∈["isinstance","int","bool","range","list","sum","enumerate","tuple","len","min","zip","sorted","set","ValueError"],W.nsIn K mainGlobals n=some none)
  {A_WIDE:Addr} (da_WIDE:W.nsIn K mainGlobals "WIDE"=some (some (.ref A_WIDE))) (dt_WIDE:jh_ K A_WIDE [(1,6),(2,6),(3,6),(4,6),(5,3)]=true)
  {C_NoBound:Addr} (ca_NoBound:W.nsIn K mainGlobals "NoBound"=some (some (.ref C_NoBound)))
  {C_NoEnds:Addr} (ca_NoEnds:W.nsIn K mainGlobals "NoEnds"=some (some (.ref C_NoEnds)))
  {C_NoDrawing:Addr} (ca_NoDrawing:W.nsIn K mainGlobals "NoDrawing"=some (some (.ref C_NoDrawing)))
  {C_NoNumber:Addr} (ca_NoNumber:W.nsIn K mainGlobals "NoNumber"=some (some (.ref C_NoNumber)))
  {C_NoText:Addr} (ca_NoText:W.nsIn K mainGlobals "NoText"=some (some (.ref C_NoText)))
  {C_CurveError:Addr} (ca_CurveError:W.nsIn K mainGlobals "CurveError"=some (some (.ref C_CurveError)))
  (cx_NoBound:W.excIn K C_NoBound bmV "ValueError.__new__"=true) (xc_NoBound:XC K C_NoBound)
  (cx_NoEnds:W.excIn K C_NoEnds bmV "ValueError.__new__"=true) (xc_NoEnds:XC K C_NoEnds)
  (ce_NoBound_CurveError:W.exmOne K (.ref C_NoBound) (.ref C_CurveError)=some true)
  (ce_NoEnds_CurveError:W.exmOne K (.ref C_NoEnds) (.ref C_CurveError)=some true)
  (ck_NoBound_ValueError:W.kitOne K (.ref C_NoBound) (.type "ValueError")=some true)
  (ck_NoBound_NoBound:W.kitOne K (.ref C_NoBound) (.ref C_NoBound)=some true)
  (ck_NoBound_NoEnds:W.kitOne K (.ref C_NoBound) (.ref C_NoEnds)=some false)
  (ck_NoEnds_ValueError:W.kitOne K (.ref C_NoEnds) (.type "ValueError")=some true)
  (ck_NoEnds_NoBound:W.kitOne K (.ref C_NoEnds) (.ref C_NoBound)=some false)
  (ck_NoEnds_NoEnds:W.kitOne K (.ref C_NoEnds) (.ref C_NoEnds)=some true)
  (cs_NoBound_0:W.kitAny K (.ref C_NoBound) [(.ref C_NoDrawing),(.ref C_NoNumber),(.ref C_NoText)]=some false)
  (cs_NoEnds_1:W.kitAny K (.ref C_NoEnds) [(.ref C_NoDrawing),(.ref C_NoNumber),(.ref C_NoText)]=some false)
  :∃fd:FuncData,(∀(s:Shared) (v:Value),BindsTo s fd ⟨[v],[]⟩ [("_law_script",v)])/\∀base:Heap,K.In base->base.Ns mainGlobals mg->FnOk l.prog w K mg base CX0 58 fa fd ["_law_script"] (iz_ K):=by
 obtain⟨a0,d0,F0⟩:=h0;obtain⟨a1,d1,F1⟩:=h1;obtain⟨a2,d2,F2⟩:=h2;obtain⟨a3,d3,F3⟩:=h3;obtain⟨a4,d4,F4⟩:=h4;obtain⟨a5,d5,F5⟩:=h5;obtain⟨a6,d6,F6⟩:=h6;obtain⟨a7,d7,F7⟩:=h7;obtain⟨a8,d8,F8⟩:=h8;obtain⟨a9,d9,F9⟩:=h9;obtain⟨a10,d10,F10⟩:=h10;obtain⟨a11,d11,F11⟩:=h11;obtain⟨a12,d12,F12⟩:=h12;obtain⟨a13,d13,F13⟩:=h13;obtain⟨a14,d14,F14⟩:=h14;obtain⟨a15,d15,F15⟩:=h15;obtain⟨a16,d16,F16⟩:=h16;obtain⟨a17,d17,F17⟩:=h17;obtain⟨a18,d18,F18⟩:=h18;obtain⟨a19,d19,F19⟩:=h19;obtain⟨a20,d20,F20⟩:=h20;obtain⟨a21,d21,F21⟩:=h21;obtain⟨a22,d22,F22⟩:=h22;obtain⟨a23,d23,F23⟩:=h23;obtain⟨a24,d24,F24⟩:=h24;obtain⟨a25,d25,F25⟩:=h25;obtain⟨a26,d26,F26⟩:=h26;obtain⟨a27,d27,F27⟩:=h27;obtain⟨a28,d28,F28⟩:=h28;obtain⟨a29,d29,F29⟩:=h29;obtain⟨a30,d30,F30⟩:=h30;obtain⟨a31,d31,F31⟩:=h31;obtain⟨a32,d32,F32⟩:=h32;obtain⟨a33,d33,F33⟩:=h33;obtain⟨a34,d34,F34⟩:=h34;obtain⟨a35,d35,F35⟩:=h35;obtain⟨a36,d36,F36⟩:=h36;obtain⟨a37,d37,F37⟩:=h37;obtain⟨a38,d38,F38⟩:=h38;obtain⟨a39,d39,F39⟩:=h39;obtain⟨a40,d40,F40⟩:=h40;obtain⟨a41,d41,F41⟩:=h41;obtain⟨a42,d42,F42⟩:=h42;obtain⟨a43,d43,F43⟩:=h43;obtain⟨a44,d44,F44⟩:=h44;cases hfa.symm.trans (W.mg_of X G a44);have Wq:=F44;obtain⟨_,_,_,_,_,_,_,_,_,rfl,_⟩:=F44.ex;have g {n:Str}{v:Value} (e:W.nsIn K mainGlobals n=some (some v)):mg n=some v:=W.mg_of X G e;exact⟨_,fun s v=> .of_eq rfl,fun base _ _=>qe_ (⟨f0,_,f1,_,f2,_,f3,_,f4,_,f5,_,f6,_,f7,_,f8,_,f9,_,f10,_,f11,_,f12,_,f13,_,f14,_,f15,_,f16,_,f17,_,f18,_,f19,_,f20,_,f21,_,f22,_,f23,_,f24,_,f25,_,f26,_,f27,_,f28,_,f29,_,f30,_,f31,_,f32,_,f33,_,f34,_,f35,_,f36,_,f37,_,f38,_,f39,_,f40,_,f41,_,f42,_,f43,_,fa,_,fb1 F0 (g a0) rfl fun _ _ _ _ _ _ _=>rfl,fb3 F1 (g a1) rfl fun _ _ _ _ _ _ _ _ _=>rfl,fb2 F2 (g a2) rfl fun _ _ _ _ _ _ _ _=>rfl,fb1 F3 (g a3) rfl fun _ _ _ _ _ _ _=>rfl,fb2 F4 (g a4) rfl fun _ _ _ _ _ _ _ _=>rfl,fb1 F5 (g a5) rfl fun _ _ _ _ _ _ _=>rfl,fb1 F6 (g a6) rfl fun _ _ _ _ _ _ _=>rfl,fb3 F7 (g a7) rfl fun _ _ _ _ _ _ _ _ _=>rfl,fb1 F8 (g a8) rfl fun _ _ _ _ _ _ _=>rfl,fb3 F9 (g a9) rfl fun _ _ _ _ _ _ _ _ _=>rfl,fb1 F10 (g a10) rfl fun _ _ _ _ _ _ _=>rfl,fb2 F11 (g a11) rfl fun _ _ _ _ _ _ _ _=>rfl,fb1 F12 (g a12) rfl fun _ _ _ _ _ _ _=>rfl,fb3 F13 (g a13) rfl fun _ _ _ _ _ _ _ _ _=>rfl,fb2 F14 (g a14) rfl fun _ _ _ _ _ _ _ _=>rfl,fb2 F15 (g a15) rfl fun _ _ _ _ _ _ _ _=>rfl,fb4 F16 (g a16) rfl fun _ _ _ _ _ _ _ _ _ _=>rfl,fb4 F17 (g a17) rfl fun _ _ _ _ _ _ _ _ _ _=>rfl,fb1 F18 (g a18) rfl fun _ _ _ _ _ _ _=>rfl,fb2 F19 (g a19) rfl fun _ _ _ _ _ _ _ _=>rfl,fb4 F20 (g a20) rfl fun _ _ _ _ _ _ _ _ _ _=>rfl,fb4 F21 (g a21) rfl fun _ _ _ _ _ _ _ _ _ _=>rfl,fb2 F22 (g a22) rfl fun _ _ _ _ _ _ _ _=>rfl,fb1 F23 (g a23) rfl fun _ _ _ _ _ _ _=>rfl,fb4 F24 (g a24) rfl fun _ _ _ _ _ _ _ _ _ _=>rfl,fb3 F25 (g a25) rfl fun _ _ _ _ _ _ _ _ _=>rfl,fb4 F26 (g a26) rfl fun _ _ _ _ _ _ _ _ _ _=>rfl,fb2 F27 (g a27) rfl fun _ _ _ _ _ _ _ _=>rfl,fb1 F28 (g a28) rfl fun _ _ _ _ _ _ _=>rfl,fb4 F29 (g a29) rfl fun _ _ _ _ _ _ _ _ _ _=>rfl,fb2 F30 (g a30) rfl fun _ _ _ _ _ _ _ _=>rfl,fb4 F31 (g a31) rfl fun _ _ _ _ _ _ _ _ _ _=>rfl,fb2 F32 (g a32) rfl fun _ _ _ _ _ _ _ _=>rfl,fb4 F33 (g a33) rfl fun _ _ _ _ _ _ _ _ _ _=>rfl,fb2 F34 (g a34) rfl fun _ _ _ _ _ _ _ _=>rfl,fb1 F35 (g a35) rfl fun _ _ _ _ _ _ _=>rfl,fb2 F36 (g a36) rfl fun _ _ _ _ _ _ _ _=>rfl,fb2 F37 (g a37) rfl fun _ _ _ _ _ _ _ _=>rfl,fb1 F38 (g a38) rfl fun _ _ _ _ _ _ _=>rfl,fb3 F39 (g a39) rfl fun _ _ _ _ _ _ _ _ _=>rfl,fb2 F40 (g a40) rfl fun _ _ _ _ _ _ _ _=>rfl,fb2 F41 (g a41) rfl fun _ _ _ _ _ _ _ _=>rfl,fb6 F42 (g a42) rfl fun _ _ _ _ _ _ _ _ _ _ _ _=>rfl,fb5 F43 (g a43) rfl fun _ _ _ _ _ _ _ _ _ _ _=>rfl,fb1 Wq (g a44) rfl fun _ _ _ _ _ _ _=>rfl,Aw X G (zz _ (by decide)),Aw X G (zz _ (by decide)),Aw X G (zz _ (by decide)),Aw X G (zz _ (by decide)),Aw X G (zz _ (by decide)),Aw X G (zz _ (by decide)),Aw X G (zz _ (by decide)),Aw X G (zz _ (by decide)),Aw X G (zz _ (by decide)),Aw X G (zz _ (by decide)),Aw X G (zz _ (by decide)),Aw X G (zz _ (by decide)),Aw X G (zz _ (by decide)),Aw X G (zz _ (by decide)),A_WIDE,g da_WIDE,dt_WIDE,C_NoBound,g ca_NoBound,C_NoEnds,g ca_NoEnds,C_NoDrawing,g ca_NoDrawing,C_NoNumber,g ca_NoNumber,C_NoText,g ca_NoText,C_CurveError,g ca_CurveError,cx_NoBound,xc_NoBound,cx_NoEnds,xc_NoEnds,ce_NoBound_CurveError,ce_NoEnds_CurveError,ck_NoBound_ValueError,ck_NoBound_NoBound,ck_NoBound_NoEnds,ck_NoEnds_ValueError,ck_NoEnds_NoBound,ck_NoEnds_NoEnds,cs_NoBound_0,cs_NoEnds_1⟩:Fns K mg)⟩
theorem walk {l:W.OpenLaw}{q:Program}{loose:List Str}{XP:(Str->Option Value)->Heap->Prop}{YP:World->Heap->Prop}{d:DefRec}{K:Params->W.Frag} (hn:l.most=some 63) (hdf:d.params.defaults=[])
  (hY:∀(w:World) (h:Heap),YP w h->(K w.params).In h)
  (F:∀(w:World) (mg:Str->Option Value) (fa:Addr) (h:Heap),(K w.params).In h->h.Ns mainGlobals mg->mg d.name=some (.ref fa)->
   ∃fd:FuncData,(∀(s:Shared) (u:Value),BindsTo s fd ⟨[u],[]⟩ [("_law_script",u)])/\∀base:Heap,(K w.params).In base->base.Ns mainGlobals mg->FnOk l.prog w (K w.params) mg base CX0 58 fa fd ["_law_script"] (iz_ (K w.params))):
  W.WalkO q loose XP YP l.row.toRowW d [] (fun f vs=>PySem.call f vs):=
 L2.n4_ (n:=63) (k:=58) (x:="_law_script") (CX:=fun _=>CX0) (sp:=fun w=>iz_ (K w.params)) hn (by decide) hdf ⟨rfl,by decide,by decide⟩ hY F (fun _ _ a ns hl _ hS=>⟨a,ns,rfl,hS,hl,fun _=>rfl⟩) fun _ _ _ _ _ z=>z
end Mine
open PySem PySem.W PyProof.Rows
namespace PySem.W.Fast
theorem tw9600418232860679281 : True := trivial
theorem tw7498069218428521253 : True := trivial
theorem tw11453340262444348218 : True := trivial
theorem tw8898776529176470641 : True := trivial
theorem tw5216018556303635333 : True := trivial
theorem tw16182956410645402690 : True := trivial
theorem tw5324003370590382303 : True := trivial
theorem tw9385651839715452706 : True := trivial
theorem tw1065512315894681537 : True := trivial
theorem tw11144239143201842432 : True := trivial
theorem tw8300584371493317804 : True := trivial
theorem tw1408637038296137627 : True := trivial
theorem tw7400623566968178471 : True := trivial
theorem tw6400486730125659876 : True := trivial
theorem tw13405426977777530284 : True := trivial
theorem tw8722002529650601335 : True := trivial
theorem tw1599478127757220564 : True := trivial
theorem tw7346455644329803896 : True := trivial
theorem tw3147705272687555711 : True := trivial
theorem tw1890389178351027890 : True := trivial
theorem tw10816127531050676500 : True := trivial
theorem tw9729974815951945985 : True := trivial
theorem tw6867408611874706764 : True := trivial
theorem tw15066447782769831115 : True := trivial
theorem tw1337289007314168271 : True := trivial
theorem tw7183357786632632087 : True := trivial
theorem tw8772874759063252267 : True := trivial
theorem tw17447093535758790497 : True := trivial
theorem tw12218563555679456937 : True := trivial
theorem tw11438096890989554534 : True := trivial
theorem tw5402594201546910461 : True := trivial
theorem tw4365712798944027921 : True := trivial
theorem tw12467970013187223870 : True := trivial
theorem tw10289535717968843429 : True := trivial
theorem tw13364503081529766765 : True := trivial
theorem tw15803681966715771971 : True := trivial
theorem tw2225792686192907355 : True := trivial
theorem tw10796378437666251476 : True := trivial
theorem tw5704484588262657660 : True := trivial
theorem tw2855890631368251220 : True := trivial
theorem tw5787012665139503447 : True := trivial
theorem tw16898261800829058215 : True := trivial
theorem tw2599311745223669318 : True := trivial
theorem tw1045336397605464367 : True := trivial
theorem tw3974174114689269215 : True := trivial
theorem tw17234246685725598653 : True := trivial
theorem tw11251184026815197481 : True := trivial
theorem tw13485891318333693772 : True := trivial
theorem tw17685364375049796151 : True := trivial
theorem tw15828045788311412276 : True := trivial
theorem tw3720485632404694450 : True := trivial
theorem tw11106841982186241505 : True := trivial
theorem tw13164830177409929895 : True := trivial
theorem tw8699389508430054616 : True := trivial
theorem tw12835731416276249662 : True := trivial
theorem tw16953185807848594506 : True := trivial
theorem tw7664609211393987014 : True := trivial
theorem tw5335648276718449569 : True := trivial
theorem tw3391715252505805132 : True := trivial
theorem tw4220070720111033252 : True := trivial
theorem tw10931269463013877522 : True := trivial
theorem tw2936816687775466130 : True := trivial
theorem tw5310629751901277518 : True := trivial
theorem tw3291795437049204714 : True := trivial
theorem tw5146787533038819308 : True := trivial
theorem tw9776124514795637101 : True := trivial
theorem tw10999474319167451767 : True := trivial
theorem tw11922138320530248941 : True := trivial
theorem tw6930499694805463601 : True := trivial
theorem tw1378856025186390844 : True := trivial
theorem tw12413524822168932780 : True := trivial
theorem tw11906564714306790681 : True := trivial
theorem tw11972264429422470269 : True := trivial
theorem tw12538884648314040545 : True := trivial
theorem tw3097631120587816290 : True := trivial
theorem tw3826138621085051881 : True := trivial
theorem tw5212295510449455905 : True := trivial
theorem tw17762107783562025130 : True := trivial
theorem tw17548940615801074836 : True := trivial
theorem tw2720543271954926306 : True := trivial
theorem tw12411435584384160458 : True := trivial
theorem tw4299425363521946744 : True := trivial
theorem tw998771488695080907 : True := trivial
theorem tw594329994260699975 : True := trivial
theorem tw3752485571731812782 : True := trivial
theorem tw16573978904734460761 : True := trivial
theorem tw9734830344015513781 : True := trivial
theorem tw2836959378984705588 : True := trivial
theorem tw14936011246219241772 : True := trivial
theorem tw6212048132964541875 : True := trivial
theorem tw16724023198632279712 : True := trivial
theorem tw14686029079916952677 : True := trivial
theorem tw13803633098482015993 : True := trivial
theorem tw11414522212281361690 : True := trivial
theorem tw9877980480572502474 : True := trivial
theorem tw6137123384437577507 : True := trivial
theorem tw14535043404917895223 : True := trivial
theorem tw14372235569072525243 : True := trivial
theorem tw16813996327546332510 : True := trivial
theorem tw3179644708308964029 : True := trivial
theorem tw10197918714112403893 : True := trivial
theorem tw1289496138663294659 : True := trivial
theorem tw3384930815668906476 : True := trivial
theorem tw7869376308356144701 : True := trivial
theorem tw13487743987437391744 : True := trivial
theorem tw14099308120455676467 : True := trivial
theorem tw10002765900118094429 : True := trivial
theorem tw8949169658333604030 : True := trivial
theorem tw2778656122583284769 : True := trivial
theorem tw3099917159269066569 : True := trivial
theorem tw17446749100950653154 : True := trivial
theorem tw4026413081809039109 : True := trivial
theorem tw6117924059531330872 : True := trivial
theorem tw9098214710080475631 : True := trivial
theorem tw16368922976186761063 : True := trivial
theorem tw3122727343490118104 : True := trivial
theorem tw12012465214440410933 : True := trivial
theorem tw10945665299811007163 : True := trivial
theorem tw661933866426731498 : True := trivial
theorem tw1266018917449044663 : True := trivial
theorem tw17101711185178049867 : True := trivial
theorem tw18126024059689041680 : True := trivial
theorem tw14904680754432341532 : True := trivial
theorem tw9846647081891109341 : True := trivial
theorem tw6985604460825084657 : True := trivial
theorem tw8698898255784101332 : True := trivial
theorem tw9820283649966478444 : True := trivial
theorem tw12606786769446375736 : True := trivial
theorem tw3752102803838036955 : True := trivial
theorem tw9091278568174256290 : True := trivial
theorem tw8753871863411323410 : True := trivial
theorem tw5371242952928247747 : True := trivial
theorem tw6077420636217700661 : True := trivial
theorem tw10924146179249437274 : True := trivial
theorem tw11927239200014494742 : True := trivial
theorem tw7286776576198849028 : True := trivial
theorem tw10066951553896139219 : True := trivial
theorem tw17719197990537205612 : True := trivial
theorem tw8077299130137689422 : True := trivial
theorem tw8781600481988200256 : True := trivial
theorem tw3405188505525548505 : True := trivial
theorem tw3764800443153561503 : True := trivial
theorem tw5585763910781519647 : True := trivial
theorem tw14314906565674414520 : True := trivial
theorem tw3848435629602688389 : True := trivial
theorem tw9560841962419969576 : True := trivial
theorem tw2848705445077459955 : True := trivial
theorem tw5137455339767911829 : True := trivial
theorem tw7738263915874069645 : True := trivial
theorem tw15953705451878191544 : True := trivial
theorem tw8438710094485013805 : True := trivial
theorem tw11906701428552258169 : True := trivial
theorem tw11110594487145838081 : True := trivial
theorem tw4777483595714427128 : True := trivial
theorem tw8941729734756189940 : True := trivial
theorem tw15556720746010922772 : True := trivial
theorem tw9129292349683688899 : True := trivial
theorem tw5953792295069804471 : True := trivial
theorem tw5930986139233462778 : True := trivial
theorem tw10643237876583119718 : True := trivial
theorem tw13857582801061293790 : True := trivial
theorem tw7502369789733952197 : True := trivial
theorem tw8136919475325181520 : True := trivial
theorem tw2811640379511640634 : True := trivial
theorem tw11456126400041011945 : True := trivial
theorem tw7456730146802192510 : True := trivial
theorem tw8006165447364726744 : True := trivial
theorem tw2665053675343682130 : True := trivial
theorem tw7488707239692550873 : True := trivial
theorem tw4990830543143304620 : True := trivial
theorem tw10649477060473610155 : True := trivial
theorem tw16899474261022040769 : True := trivial
theorem tw16777710615172193826 : True := trivial
theorem tw7263074449748342925 : True := trivial
theorem tw16343728708224731223 : True := trivial
theorem tw9135279591744308610 : True := trivial
theorem tw17360388640583329401 : True := trivial
theorem tw11772337414675275970 : True := trivial
theorem tw15585761142295924803 : True := trivial
theorem tw8213418996630157062 : True := trivial
theorem tw7344650630459879671 : True := trivial
theorem tw15742702489207798404 : True := trivial
theorem tw37785984879985064 : True := trivial
theorem tw5189600921067386203 : True := trivial
theorem tw120665096497859764 : True := trivial
theorem tw10416964143889238482 : True := trivial
theorem tw4438070004544155688 : True := trivial
theorem tw6961697113553129623 : True := trivial
theorem tw18123844009398461949 : True := trivial
theorem tw10725510200886024347 : True := trivial
theorem tw16863718370442262688 : True := trivial
theorem tw15704048616727748779 : True := trivial
theorem tw9601771465181984849 : True := trivial
theorem tw6049011737595109729 : True := trivial
theorem tw14222641796572345350 : True := trivial
theorem tw13837590775794344634 : True := trivial
theorem tw17467895021432766403 : True := trivial
theorem tw18444663837567699064 : True := trivial
theorem tw14088766080960220987 : True := trivial
theorem tw17114298443901745775 : True := trivial
theorem tw15995993288218860766 : True := trivial
theorem tw12838183451736949206 : True := trivial
theorem tw4237845115233074292 : True := trivial
theorem tw6075744990703160606 : True := trivial
theorem tw17399492518225585489 : True := trivial
theorem tw11940487580001513789 : True := trivial
theorem tw59857998566625962 : True := trivial
theorem tw5921000140525620504 : True := trivial
theorem tw9793640953240886702 : True := trivial
theorem tw10802543342622145531 : True := trivial
theorem tw8383994353905977999 : True := trivial
theorem tw6343893033849617005 : True := trivial
theorem tw1263729712159165044 : True := trivial
theorem tw9770687698648339421 : True := trivial
theorem tw5496606406175347896 : True := trivial
theorem tw17978566543913925173 : True := trivial
theorem tw214716205601495503 : True := trivial
theorem tw13217547675763460818 : True := trivial
theorem tw5872645271653181709 : True := trivial
theorem tw5441586385666300862 : True := trivial
theorem tw9894554799280080521 : True := trivial
theorem tw173036532336500105 : True := trivial
theorem tw17850775560576603989 : True := trivial
theorem tw17318300663205730089 : True := trivial
theorem tw3674800683597642188 : True := trivial
theorem tw12856805510347318501 : True := trivial
theorem tw4861493062874310404 : True := trivial
theorem tw14545971336403975891 : True := trivial
theorem tw10581027660631222200 : True := trivial
theorem tw7795488523764426197 : True := trivial
theorem tw10781425323647977768 : True := trivial
theorem tw17753373550106864232 : True := trivial
theorem tw6736383974631638526 : True := trivial
theorem tw3553597030097157860 : True := trivial
theorem tw4585329079010946244 : True := trivial
theorem tw10844091448060416286 : True := trivial
theorem tw54066394434399134 : True := trivial
theorem tw98900358844047884 : True := trivial
theorem tw6486527303979728189 : True := trivial
theorem tw13610800540595441985 : True := trivial
theorem tw16409018243972283120 : True := trivial
theorem tw10675550467356112848 : True := trivial
theorem tw12254996282510130839 : True := trivial
theorem tw10579331310434056392 : True := trivial
theorem tw1737830034601402944 : True := trivial
theorem tw9944489732632729426 : True := trivial
theorem tw1182779224663159542 : True := trivial
theorem tw11878658960478172116 : True := trivial
theorem tw3717098023018508567 : True := trivial
theorem tw2280798553021874106 : True := trivial
theorem tw571253409641929101 : True := trivial
theorem tw9316511960010744916 : True := trivial
theorem tw8253167812162008202 : True := trivial
theorem tw16767772511132652866 : True := trivial
theorem tw15738857854675505215 : True := trivial
theorem tw16380932793792298880 : True := trivial
theorem tw3655591866198853908 : True := trivial
theorem tw8638240612214053083 : True := trivial
theorem tw18258238019010123026 : True := trivial
theorem tw4363856725870346793 : True := trivial
theorem tw3452879103028598690 : True := trivial
theorem tw3456084750636049998 : True := trivial
theorem tw6065432877266943467 : True := trivial
theorem tw6294553909355046440 : True := trivial
theorem tw15724091161605187008 : True := trivial
theorem tw105736970445886796 : True := trivial
theorem tw3641585868395342556 : True := trivial
theorem tw13952634071304083505 : True := trivial
theorem tw5078199184042379159 : True := trivial
theorem tw13585201433624155781 : True := trivial
theorem tw5009073103339946989 : True := trivial
theorem tw714816384083619868 : True := trivial
theorem tw2571505916326226361 : True := trivial
theorem tw5157590372741076003 : True := trivial
theorem tw17294532628756738323 : True := trivial
theorem tw3117106477679774645 : True := trivial
theorem tw1740486614177527217 : True := trivial
theorem tw207368292001477555 : True := trivial
theorem tw11633488282017254796 : True := trivial
theorem tw16466120182054662905 : True := trivial
theorem tw11863264732461756451 : True := trivial
theorem tw13255609831353491617 : True := trivial
theorem tw8265055227182143018 : True := trivial
theorem tw13323711427855202194 : True := trivial
theorem tw18402831061462942573 : True := trivial
theorem tw12355823468609502698 : True := trivial
theorem tw5820427196235135261 : True := trivial
theorem tw2080928420269927183 : True := trivial
theorem tw5583961192641431415 : True := trivial
theorem tw3352367896331587727 : True := trivial
theorem tw10999897456638420312 : True := trivial
theorem tw5969257808735438222 : True := trivial
theorem tw9020357250871497343 : True := trivial
theorem tw6641635367957474694 : True := trivial
theorem tw3439154198230006363 : True := trivial
theorem tw18085847782927728985 : True := trivial
theorem tw2703200477164810898 : True := trivial
theorem tw1761221358829073462 : True := trivial
theorem tw6046482333169667940 : True := trivial
theorem tw5820376236828149196 : True := trivial
theorem tw8086013751395155250 : True := trivial
theorem tw13902924483935500995 : True := trivial
theorem tw351035274399595570 : True := trivial
theorem tw4288142192573201457 : True := trivial
theorem tw17285825076739359105 : True := trivial
theorem tw7870269268493482142 : True := trivial
theorem tw9561172256163373401 : True := trivial
theorem tw16529932784323781477 : True := trivial
theorem tw6399056106114857337 : True := trivial
theorem tw17366362118737847989 : True := trivial
theorem tw9452416030674667629 : True := trivial
theorem tw13386585627800370906 : True := trivial
theorem tw7438863039663961139 : True := trivial
theorem tw1450851248042330513 : True := trivial
theorem tw2756470281091714508 : True := trivial
theorem tw10667296927363012466 : True := trivial
theorem tw7535537707486204790 : True := trivial
theorem tw8166319157074739869 : True := trivial
theorem tw17673962616095651018 : True := trivial
theorem tw16134082913778496508 : True := trivial
theorem tw5823648509177596254 : True := trivial
theorem tw13778504927298263853 : True := trivial
theorem tw11876640633558068694 : True := trivial
theorem tw13642153158541309563 : True := trivial
theorem tw1874595851926164773 : True := trivial
theorem tw10245838559056145980 : True := trivial
theorem tw4338697024521008444 : True := trivial
theorem tw641922976060075634 : True := trivial
theorem tw10165665917449814249 : True := trivial
theorem tw13210175416259591886 : True := trivial
theorem tw5458126815842746559 : True := trivial
theorem tw4526589454011695841 : True := trivial
theorem tw12418372023880571154 : True := trivial
theorem tw13475553218488030904 : True := trivial
theorem tw3269761097973690653 : True := trivial
theorem tw2375969779715395492 : True := trivial
theorem tw8278591933979299575 : True := trivial
theorem tw4103675632401360948 : True := trivial
theorem tw1599375820956972115 : True := trivial
theorem tw1902227409343281356 : True := trivial
theorem tw879244954450876847 : True := trivial
theorem tw3643264867827223908 : True := trivial
theorem tw8506462772213716289 : True := trivial
theorem tw9673670945614805841 : True := trivial
theorem tw14002519599155515164 : True := trivial
theorem tw12170347921423221200 : True := trivial
theorem tw6990105364580222043 : True := trivial
theorem tw13145218025931611346 : True := trivial
theorem tw16048425041286045557 : True := trivial
theorem tw7620443886019877349 : True := trivial
theorem tw5691833479004979992 : True := trivial
theorem tw7945511152715277750 : True := trivial
theorem tw16448362681194454563 : True := trivial
theorem tw8561024219425958168 : True := trivial
theorem tw3380464321249021820 : True := trivial
theorem tw6743291978195608774 : True := trivial
theorem tw16762245643607426090 : True := trivial
theorem tw8155816986556422731 : True := trivial
theorem tw3242934486689074724 : True := trivial
theorem tw6897494670053562165 : True := trivial
theorem tw6216639040816704561 : True := trivial
theorem tw6906807062579907972 : True := trivial
theorem tw7818418803329283217 : True := trivial
theorem tw16781151152492828429 : True := trivial
theorem tw4175000644830457784 : True := trivial
theorem tw5399617326619313991 : True := trivial
theorem tw6813044113067409723 : True := trivial
theorem tw7683045745544179120 : True := trivial
theorem tw1085681517300638866 : True := trivial
theorem tw11919573618884385733 : True := trivial
theorem tw17042748235744301963 : True := trivial
theorem tw2876103681909960705 : True := trivial
theorem tw16910835767726928412 : True := trivial
theorem tw10295002850012929095 : True := trivial
theorem tw11276947878799360642 : True := trivial
theorem tw1336768396374232883 : True := trivial
end PySem.W.Fast
set_option maxRecDepth 100000 in
set_option maxHeartbeats 0 in
theorem PySem.Challenge.cw_floorcurves_k48_ends_refused_holds : PySem.Challenge.rw_floorcurves_k48_ends_refused.Holds := by
 w_on; o_law; k_head; (case hw => w_witness2)
 k_fill
 refine Mine.walk (l := PySem.Challenge.rw_floorcurves_k48_ends_refused) rfl rfl (fun w h Y => PySem.W.kIn_of Y) ?F
 case F =>
  intro w mg fa h KX G hmg
  refine' Mine.qZ_ KX G hmg ?h0 ?h1 ?h2 ?h3 ?h4 ?h5 ?h6 ?h7 ?h8 ?h9 ?h10 ?h11 ?h12 ?h13 ?h14 ?h15 ?h16 ?h17 ?h18 ?h19 ?h20 ?h21 ?h22 ?h23 ?h24 ?h25 ?h26 ?h27 ?h28 ?h29 ?h30 ?h31 ?h32 ?h33 ?h34 ?h35 ?h36 ?h37 ?h38 ?h39 ?h40 ?h41 ?h42 ?h43 ?h44 ?zz ?da_WIDE ?dt_WIDE ?ca_NoBound ?ca_NoEnds ?ca_NoDrawing ?ca_NoNumber ?ca_NoText ?ca_CurveError ?cx_NoBound ?xc_NoBound ?cx_NoEnds ?xc_NoEnds ?ce_NoBound_CurveError ?ce_NoEnds_CurveError ?ck_NoBound_ValueError ?ck_NoBound_NoBound ?ck_NoBound_NoEnds ?ck_NoEnds_ValueError ?ck_NoEnds_NoBound ?ck_NoEnds_NoEnds ?cs_NoBound_0 ?cs_NoEnds_1
  (case h0 | h1 | h2 | h3 | h4 | h5 | h6 | h7 | h8 | h9 | h10 | h11 | h12 | h13 | h14 | h15 | h16 | h17 | h18 | h19 | h20 | h21 | h22 | h23 | h24 | h25 | h26 | h27 | h28 | h29 | h30 | h31 | h32 | h33 | h34 | h35 | h36 | h37 | h38 | h39 | h40 | h41 | h42 | h43 | h44 => refine' Mine.sc_ ?a ?l ?c ?k; (case a => k_is); (case l => k_is); (case c => k_is); (case k => k_is))
  (case zz => intro n hn; simp only [List.mem_cons, List.not_mem_nil, or_false] at hn; rcases hn with rfl | rfl | rfl | rfl | rfl | rfl | rfl | rfl | rfl | rfl | rfl | rfl | rfl | rfl <;> k_is)
  (case da_WIDE => k_is)
  (case dt_WIDE => first | k_is | kit_is | kts_exm | kernel_rfl)
  (case ca_NoBound | ca_NoEnds | ca_NoDrawing | ca_NoNumber | ca_NoText | ca_CurveError | cx_NoBound | cx_NoEnds => first | k_is | kit_is | kts_exm | kernel_rfl)
  (case xc_NoBound | xc_NoEnds => constructor <;> first | k_is | kit_is | kts_exm | kernel_rfl)
  (case ce_NoBound_CurveError | ce_NoEnds_CurveError | ck_NoBound_ValueError | ck_NoBound_NoBound | ck_NoBound_NoEnds | ck_NoEnds_ValueError | ck_NoEnds_NoBound | ck_NoEnds_NoEnds | cs_NoBound_0 | cs_NoEnds_1 => first | k_is | kit_is | kts_exm | kernel_rfl)
#print axioms PySem.Challenge.cw_floorcurves_k48_ends_refused_holds
