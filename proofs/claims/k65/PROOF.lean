import PyProof.Rows.All
import Wide.All
import OpenK.AllK
import Wide.FinOn
import PySem.Challenge.RW_floorcurves_k65_from_the_least_degree
import Lean
import PyProof.EqAt
import PyProof.EqKinds
import PyProof.TupleCall
local macro_rules | `(tactic| lia) => `(tactic| first | lia -verbose | omega)
local macro_rules | `(tactic| ac_nf) => `(tactic| decide +kernel)
local macro_rules | `(tactic| trivial) => `(tactic| first | exact Or.inl rfl | exact Or.inr rfl)
abbrev A0:=@PySem.wpAny_bind
abbrev A1:=@List.getElem?_eq_getElem
abbrev A2:=@List.length_map
abbrev A3:=@PySem.wpAny_pure
abbrev A4:=@Option.map_eq_some_iff
abbrev A5:=@Nat.le_refl
abbrev A6:=@List.getElem?_map
abbrev A7:=@if_neg
abbrev A8:=@List.size_toArray
abbrev A9:=@if_pos
abbrev AA:=@Option.bind_eq_some_iff
abbrev AB:=@PySem.Heap.get?_push_of_some
abbrev AC:=@List.getElem?_eq_some_iff
abbrev AD:=@List.getD_eq_getElem?_getD
abbrev AE:=@Bool.and_eq_true
abbrev AF:=@PySem.Heap.lt_size
abbrev AG:=@PySem.W.mg_of
abbrev AH:=@PySem.Heap.get?_push_size
abbrev AI:=@Nat.ne_of_lt
abbrev AJ:=@Bool.false_eq_true
abbrev AK:=@PyProof.Rows.wpS_bind
abbrev AL:=@List.map_append
abbrev AM:=@List.take_add_one
abbrev AN:=@List.mem_cons
abbrev AO:=@List.length_append
abbrev AQ:=@Bool.false_ne_true
abbrev AR:=@decide_eq_false
abbrev AS:=@PySem.PassesOwn.never
abbrev AT:=@Nat.zero_le
abbrev AU:=@Int.toNat_natCast
abbrev AV:=@PyProof.Rows.wpS_pure
abbrev AW:=@List.map_cons
abbrev AX:=@List.mem_of_getElem?
abbrev AY:=@Nat.lt_of_lt_of_le
abbrev AZ:=@List.take_length
abbrev Aa:=@List.mem_map
abbrev Ab:=@Nat.lt_succ_of_lt
abbrev Ac:=@Array.getElem?_eq_getElem
abbrev Ad:=@PySem.W.mg_none_of
abbrev Ae:=@of_decide_eq_true
abbrev Af:=@List.length_take
abbrev Ag:=@List.length_cons
abbrev Ah:=@decide_eq_true
abbrev Ai:=@Nat.le_trans
abbrev Aj:=@List.replicate_succ
abbrev Ak:=@Int.eq_ofNat_of_zero_le
abbrev Al:=@List.mem_append_right
abbrev Am:=@List.length_replicate
abbrev An:=@PySem.wpAny_holding
abbrev Ao:=@List.all_eq_true
abbrev Ap:=@Option.some.inj
abbrev Aq:=@PySem.wpAny_newObj_type
abbrev Ar:=@PySem.wpAny_call_entry
abbrev As:=@if_false
abbrev At:=@List.mem_cons_of_mem
abbrev Au:=@decide_eq_true_eq
abbrev Av:=@Option.some.injEq
abbrev Aw:=@PySem.Heap.size_update
abbrev Ax:=@PySem.Heap.get?_push_ne
abbrev Ay:=@Array.length_toList
abbrev Az:=@Nat.le_of_lt
abbrev B':=@PySem.sizeLine_eq
abbrev BA:=@List.mem_cons_self
abbrev BB:=@List.mem_singleton
abbrev BC:=@List.not_mem_nil
abbrev BD:=@List.length_eq_zero_iff
abbrev BE:=@PySem.Heap.SameBut.update
abbrev BF:=@PySem.wpAny_truthy_bool
abbrev BG:=@PyProof.Rows.callWith_type1
abbrev BH:=@PySem.wpAny_mono
abbrev BI:=@PyProof.Rows.slot_tuple_getitem
abbrev BJ:=@PySem.wpAny_setState_of
abbrev BK:=@PySem.wpAny_callSpecial?_slot
abbrev BL:=@PySem.F.slot_dict_valueiterator_next
abbrev BM:=@List.length_singleton
abbrev BN:=@List.mem_range
abbrev BO:=@PySem.W.kia_one
abbrev BP:=@Nat.lt_or_ge
abbrev BQ:=@PySem.F.slot_dict_keyiterator_next
abbrev BR:=@PySem.F.plainAttrs_list
abbrev BS:=@List.getElem?_set_ne
abbrev BU:=@PySem.Heap.size_push
abbrev BV:=@PySem.wpAny_Call_Name_kw
abbrev BW:=@congrArg
abbrev BX:=@List.append_assoc
abbrev BY:=@Int.fdiv_eq_ediv_of_nonneg
abbrev BZ:=@Array.getElem?_eq_none
abbrev Ba:=@List.nodup_cons
abbrev Bb:=@List.drop_eq_getElem_cons
abbrev Bc:=@Nat.lt_succ_self
abbrev Be:=@Prod.mk.injEq
abbrev Bf:=@List.map_map
abbrev Bg:=@List.mem_iff_getElem
abbrev Bh:=@List.find?_cons
abbrev Bi:=@Bool.or_eq_true
abbrev Bj:=@PySem.mem_of_lookup
abbrev Bk:=@PySem.Around.under_plainId
abbrev Bl:=@PyProof.Rows.size_push'
abbrev Bm:=@Nat.lt_irrefl
abbrev Bo:=@PySem.codeAny_builtin
abbrev Bp:=@PySem.Value.ref.injEq
abbrev Bq:=@Nat.mul_le_mul
abbrev Br:=@Nat.lt_of_le_of_lt
abbrev Bs:=@List.filter_append
abbrev Bt:=@Array.getElem?_eq_some_iff
abbrev Bu:=@Array.getElem?_toList
abbrev Bv:=@List.range_succ
abbrev Bw:=@List.length_set
abbrev Bx:=@List.map_congr_left
abbrev By:=@List.getElem_mem
abbrev Bz:=@PySem.Paired.length
abbrev C0:=@Nat.ne_of_gt
abbrev C1:=@List.append_nil
abbrev C2:=@List.sum_cons
abbrev C3:=@Bool.not_true
abbrev C4:=@PySem.wpAny_typeNameOfWhole_valiter
abbrev C5:=@PySem.wpAny_typeNameOfWhole_keyiter
abbrev C6:=@List.length_range
abbrev C7:=@List.flatten_cons
abbrev C8:=@PySem.Obj.data_mapFields
abbrev C9:=@PySem.wpAny_passesOwn
abbrev CA:=@PySem.wpAny_loadPart'
abbrev CC:=@or_false
abbrev CD:=@Nat.pow_le_pow_right
abbrev CF:=@Int.eq_of_mul_eq_mul_right
abbrev CG:=@Bool.and_false
abbrev CH:=@PySem.wpAny_attempt
abbrev CI:=@if_true
abbrev CJ:=@List.lookup_cons
abbrev CK:=@PySem.Heap.get?_update_self
abbrev CL:=@PySem.wpAny_dictEntries
abbrev CM:=@List.pairwise_iff_getElem
abbrev CN:=@PySem.wpAny_setField
abbrev CO:=@PyProof.Rows.get?_update_seq
abbrev CP:=@PyProof.Rows.boot_isinstance
abbrev CQ:=@Nat.min_eq_left
abbrev CS:=@Int.emod_nonneg
abbrev CT:=@PyProof.Rows.listUpdate_at
abbrev CU:=@List.pairwise_cons
abbrev CV:=@PySem.F.called_set
abbrev CW:=@PySem.wpAny_typeNameOf_valiter
abbrev CY:=@PySem.wpAny_typeNameOf_keyiter
abbrev CZ:=@bne_self_eq_false
abbrev Ca:=@List.take_of_length_le
abbrev Cb:=@List.pairwise_map
abbrev Cc:=@Int.pow_succ
abbrev Cd:=@Int.natAbs_mul
abbrev Ce:=@PySem.wpAny_dictEpoch
abbrev Cf:=@PySem.Calls.spliced_cons
abbrev Cg:=@List.length_filter_le
abbrev Ch:=@beq_iff_eq
abbrev Ci:=@PyProof.Rows.callWith_builtin1
abbrev Cj:=@Nat.mod_lt
abbrev Ck:=@PySem.wpAny_fieldsOf
abbrev Cm:=@Nat.pow_lt_pow_right
abbrev Cn:=@Nat.le_succ
abbrev Co:=@List.mem_of_mem_drop
abbrev Cp:=@Int.mul_ediv_cancel'
abbrev Cq:=@PySem.Calls.callWith_builtin
abbrev Cr:=@List.mem_filter
abbrev Cs:=@List.mem_append
abbrev Ct:=@PyProof.Rows.wpS_modify
abbrev Cu:=@List.mem_map_of_mem
abbrev Cv:=@List.getD_cons_succ
abbrev Cw:=@PySem.wpAny_askSetting
abbrev Cy:=@PySem.wpAny_newList
abbrev Cz:=@PySem.plainId_quiet
abbrev D3:=@List.mem_filterMap
abbrev D4:=@List.map_replicate
abbrev D5:=@List.getElem?_append_right
abbrev D6:=@Int.ofNat_dvd_left
abbrev D7:=@Array.perm_iff_toList_perm
abbrev D8:=@PySem.wpAny_execs_nil
abbrev D9:=@PySem.Heap.get?_update_ne
abbrev D':=@PySem.wpAny_typeOf
abbrev DA:=@PySem.wpAny_rule
abbrev DB:=@PySem.tupleKind_room_in1
abbrev DC:=@PySem.call_meets
set_option pp.maxSteps 400
set_option Elab.async false
set_option linter.all false
set_option maxRecDepth 100000
set_option maxHeartbeats 4000000
set_option Elab.async false
set_option linter.all false
set_option maxRecDepth 100000
namespace L2
open PySem PySem.Spec PyProof.Rows
abbrev Key:=Sum Int Str
def jU_:Key->Value->Bool
 | .inl k,v=>Value.isInt k v
 | .inr x,v=>Value.isStrOf x v
def sT_ (w:World):Key->Int
 | .inl k=>hashInt k
 | .inr x=>hashStr w x
theorem a0_:∀{k:Key}{v:Value},jU_ k v=true->(∃i t,k=Sum.inl i/\v=Value.int i t)\/(∃x t,k=Sum.inr x/\v=Value.str x t)
 | .inl i,v,h=>by
  obtain⟨t,e⟩:=Value.isInt_shape (k:=i) (v:=v) h;exact .inl ⟨i,t,rfl,e⟩
 | .inr x,v,h=>by
  obtain⟨t,e⟩:=Value.isStrOf_shape (x:=x) (v:=v) h;exact .inr ⟨x,t,rfl,e⟩
theorem lt_ (i:Int) (t:Tok):jU_ (.inl i) (.int i t)=true:=by simp [jU_,Value.isInt]
theorem ls_ (x:Str) (t:Tok):jU_ (.inr x) (.str x t)=true:=by simp [jU_,Value.isStrOf]
theorem qE_ (a b:Int):decide ((Sum.inl a:Key)=Sum.inl b)=(a==b):=by
 by_cases e:a=b
 .subst e;simp
 .have h:¬(Sum.inl a:Key)=Sum.inl b:=fun q=>e (Sum.inl.inj q);rw [AR h];exact(beq_eq_false_iff_ne.mpr e).symm
theorem qB_ (a b:Str):decide ((Sum.inr a:Key)=Sum.inr b)=decide (a=b):=by
 by_cases e:a=b
 .subst e;simp
 .have h:¬(Sum.inr a:Key)=Sum.inr b:=fun q=>e (Sum.inr.inj q);rw [AR h,AR e]
theorem qD_ (a:Int) (b:Str):decide ((Sum.inl a:Key)=Sum.inr b)=false:=AR (fun q=>nomatch q)
theorem qC_ (a:Str) (b:Int):decide ((Sum.inr a:Key)=Sum.inl b)=false:=AR (fun q=>nomatch q)
def bb_ (prog:Program) (w:World):PySem.KeyKind prog w Key where
 is:=jU_
 hash:=sT_ w
 inj:=fun v a b ha hb=>by
  rcases a0_ ha with⟨i,t,rfl,rfl⟩|⟨x,t,rfl,rfl⟩
  .rcases a0_ hb with⟨j,u,rfl,e⟩|⟨y,u,rfl,e⟩
   .injection e with e1 _;rw [e1]
   .exact nomatch e
  .rcases a0_ hb with⟨j,u,rfl,e⟩|⟨y,u,rfl,e⟩
   .exact nomatch e
   .injection e with e1 _;rw [e1]
 byValue:=fun k v h=>by
  rcases a0_ h with⟨i,t,rfl,rfl⟩|⟨x,t,rfl,rfl⟩<;>rfl
 pyHash:=fun hv h=>by
  rcases a0_ hv with⟨i,t,rfl,rfl⟩|⟨x,t,rfl,rfl⟩
  .exact wpAny_pyHash_int h
  .exact wpAny_pyHash_str h
 eqBool:=fun hu hv h=>by
  rcases a0_ hu with⟨i,t,rfl,rfl⟩|⟨x,t,rfl,rfl⟩
  .rcases a0_ hv with⟨j,u,rfl,rfl⟩|⟨y,u,rfl,rfl⟩
   .rw [qE_] at h;exact wpAny_eqBool_int h
   .rw [qD_] at h;exact SeqAt.EqAt.int_str i t y u _ _ _ _ h
  .rcases a0_ hv with⟨j,u,rfl,rfl⟩|⟨y,u,rfl,rfl⟩
   .rw [qC_] at h;exact SeqAt.EqAt.str_int x t j u _ _ _ _ h
   .rw [qB_] at h;exact wpAny_eqBool_str h
 «strs»:=fun k x t v h=>by
  rcases a0_ h with⟨i,u,rfl,e⟩|⟨y,u,rfl,e⟩
  .exact nomatch e
  .injection e with e1 _;subst e1;cases v<;>rfl
theorem ic_ (prog:Program) (w:World) (i:Int) (t:Tok):(bb_ prog w).is (.inl i) (.int i t)=true:=lt_ i t
theorem ib_ (prog:Program) (w:World) (x:Str) (t:Tok):(bb_ prog w).is (.inr x) (.str x t)=true:=ls_ x t
end L2
namespace L2
open PySem PySem.Spec PyProof.Rows
inductive V where
 |non|bl (b:Bool)|int (i:Int)|str (x:Str)|byt (b:Array UInt8)|flt (b:UInt64)|ref (a:Addr)|ty (n:String)
 deriving DecidableEq
def be_:V->Value->Prop
 | .non,u=>u=Value.none
 | .bl b,u=>u=Value.bool b
 | .int i,u=>∃t,u=Value.int i t
 | .str x,u=>∃t,u=Value.str x t
 | .byt b,u=>∃t,u=Value.bytes b t
 | .flt b,u=>∃t,u=Value.float b t
 | .ref a,u=>u=Value.ref a
 | .ty n,u=>u=Value.type n
abbrev aV_:List V->List Value->Prop:=Paired be_
theorem aV_.length {xs:List V}{us:List Value} (r:aV_ xs us):xs.length=us.length:=Bz r
theorem aV_.get:∀{xs:List V}{us:List Value}{i:Nat}{x:V},aV_ xs us->xs[i]? =some x->∃u,us[i]? =some u/\be_ x u
 |_,_,_,_, .nil,e=>by simp at e
 |_,_,0,_, .cons r _,e=>by simp at e;subst e;exact⟨_,rfl,r⟩
 |_,_,i+1,x, .cons _ t,e=>by
  obtain⟨u,h1,h2⟩:=aV_.get (i:=i) (x:=x) t (by simpa using e);exact⟨u,by simpa using h1,h2⟩
theorem aV_.set {x:V}{u:Value} (r:be_ x u):∀{xs:List V}{us:List Value} (i:Nat),aV_ xs us->aV_ (xs.set i x) (us.set i u)
 |_,_,_, .nil=> .nil
 |_,_,0, .cons _ t=> .cons r t
 |_,_,i+1, .cons q t=> .cons q (aV_.set r i t)
theorem aV_.append:∀{xs ys:List V}{us ws:List Value},aV_ xs us->aV_ ys ws->aV_ (xs++ys) (us++ws)
 |_,_,_,_, .nil,s=>s
 |_,_,_,_, .cons r t,s=> .cons r (aV_.append t s)
theorem aV_.take:∀{xs:List V}{us:List Value} (n:Nat),aV_ xs us->aV_ (xs.take n) (us.take n)
 |_,_,0,_=> .nil
 |_,_,_+1, .nil=> .nil
 |_,_,n+1, .cons r t=> .cons r (aV_.take n t)
theorem aV_.drop:∀{xs:List V}{us:List Value} (n:Nat),aV_ xs us->aV_ (xs.drop n) (us.drop n)
 |_,_,0,r=>r
 |_,_,_+1, .nil=> .nil
 |_,_,n+1, .cons _ t=>aV_.drop n t
def j6_:Option V->Option Value->Prop
 |some v,some u=>be_ v u
 |none,none=>True
 |_,_=>False
def KV {κ:Type}:List (κ×V)->List (κ×Value)->Prop:=Paired fun(p:κ×V) (q:κ×Value)=>p.1=q.1/\be_ p.2 q.2
def kV:Key->V
 | .inl i=> .int i
 | .inr x=> .str x
inductive HO where
  |lst (xs:List V)
  |tup (xs:List V)
  |dK (kvs:List (Key×V))|dT (kvs:List (List Key×V))
  |set (S:Int->Bool) (n:Nat)
  |ins (C dx:Addr) (fs:List (Str×V))
  |own (x:Addr)
  |xd (fs:List (Str×V))
  |met (f x:Addr)
  |rng (lo hi:Int)
  |frz (o:Obj) (u:HO)
  |tbl (ps:Array Value)
  |ext (φ:Heap->Prop)
abbrev Hp:=Addr->Option HO
def upd (H:Hp) (a:Addr) (o:HO):Hp:=fun b=>if b=a then some o else H b
theorem ae_ {H:Hp}{a:Addr}{o:HO}:upd H a o a=some o:=by unfold upd;rw [A9 rfl]
theorem aj_ {H:Hp}{a b:Addr}{o:HO} (h:b≠a):upd H a o b=H b:=by unfold upd;rw [A7 h]
theorem n5_ {H:Hp}{a:Addr}{o u:HO}:upd (upd H a o) a u=upd H a u:=by
 funext b;unfold upd;split<;>rfl
theorem mH_ {H:Hp}{a b:Addr}{o u:HO} (h:H a=some o) (h':H b=some u) (d:o≠u):a≠b:=by
 intro e;subst e;rw [h] at h';exact d (Ap h')
theorem ao_ {H:Hp}{a b:Addr}{o:HO} (h:H a=some o) (h':H b=none):a≠b:=by
 intro e;subst e;rw [h] at h';cases h'
section
variable (P:Program) (w:World)
def aQ_ (H:Hp) (h:Heap) (a:Addr):HO->Prop
 | .lst xs=>xs.length<=sizeLine/\∃(its:List Value) (n:Nat),aV_ xs its/\h.get? a=some {cls:= .type "list",data:= .seq its.toArray n}
 | .tup xs=>xs.length<=sizeLine/\∃its:List Value,aV_ xs its/\IsTup h a its.toArray
 | .dK kvs=>kvs.length<=sizeLine/\(a==sysModules)=false/\∃vs,KV kvs vs/\h.DictOf (bb_ P w) a vs
 | .dT kvs=>kvs.length<=sizeLine/\(a==sysModules)=false/\∃xs:List (List Key×Addr×Value),
   Paired (fun(p:List Key×V) (q:List Key×Addr×Value)=>p.1=q.1/\H q.2.1=some (.tup (p.1.map kV))/\be_ p.2 q.2.2) kvs xs/\
   ∃o es ep,h.get? a=some o/\o.ExactDict/\o.data= .dict es ep/\es.toList=xs.map (entryOfKey (tupleKind (bb_ P w)))/\(xs.map (·.1)).Nodup
 | .set S n=>h.SetOf (intKind P w) a S n
 | .ins C dx fs=>H dx=some (.own a)/\fs.length<=1000/\dx≠a/\h.get? a=some (W.instObj C dx)/\
   ∃mA,h.Ns1 dx mA/\(∀f,j6_ (fs.lookup f) (mA f))/\PySem.Within mA (fs.map (·.1))
 | .own _=>∃o,h.get? a=some o
 | .xd fs=>∃mA,h.Ns1 a mA/\∀f,j6_ (fs.lookup f) (mA f)
 | .rng lo hi=>∃t u v,h.get? a=some {cls:= .type "range",data:= .fields #[.int lo t, .int hi u, .int 1 v]}
 | .frz o u=>h.get? a=some o/\aQ_ H h a u
 | .tbl ps=>h.get? a=some {cls:= .none,data:= .fields ps}
 | .met f x=>h.get? a=some (W.methodObj (.ref f) (.ref x))
 | .ext φ=>φ h/\(∃o,h.get? a=some o)/\∀h1 h2:Heap,φ h1->(∀o,h1.get? a=some o->h2.get? a=some o)->φ h2
def HOk (H:Hp) (h:Heap):Prop:=∀a o,H a=some o->aQ_ P w H h a o
end
section
variable {P:Program}{w:World}{H H':Hp}{h h':Heap}{a:Addr}{o:HO}
theorem aQ_.lt (x:aQ_ P w H h a o):a<h.objs.size:=by
 cases o with
 |lst xs=>obtain⟨_,_,_,_,e⟩:=x;exact AF e
 |tup xs=>obtain⟨_,_,_,p⟩:=x;exact p.lt
 |dK kvs=>obtain⟨_,_,_,_,o,_,_,e,_⟩:=x;exact AF e
 |dT kvs=>obtain⟨_,_,_,_,o,_,_,e,_⟩:=x;exact AF e
 |set S n=>obtain⟨o,_,_,_,e,_⟩:=x;exact AF e
 |ins C dx fs=>obtain⟨_,_,_,e,_⟩:=x;exact AF e
 |own y=>obtain⟨_,e⟩:=x;exact AF e
 |xd fs=>obtain⟨_,⟨_,_,_,e,_⟩,_⟩:=x;exact AF e
 |rng lo hi=>obtain⟨_,_,_,e⟩:=x;exact AF e
 |frz ob u=>obtain⟨e,_⟩:=x;exact AF e
 |tbl ps=>exact AF (show h.get? a=some _ from x)
 |met f y=>exact AF (show h.get? a=some _ from x)
 |ext φ=>obtain⟨_,⟨_,e⟩,_⟩:=x;exact AF e
theorem Paired.mapP {α β:Type}{F G:α->β->Prop}:∀{l₁:List α}{l₂:List β},Paired F l₁ l₂->(∀a b,F a b->G a b)->Paired G l₁ l₂
 |_,_, .nil,_=> .nil
 |_,_, .cons r t,f=> .cons (f _ _ r) (Paired.mapP t f)
theorem aQ_.stay (x:aQ_ P w H h a o) (k:∀b u,(b=a\/H b=some (.own a))->h.get? b=some u->h'.get? b=some u)
  (ho:∀b,H b=some (.own a)->H' b=some (.own a)) (ht:∀b xs,H b=some (.tup xs)->H' b=some (.tup xs)):aQ_ P w H' h' a o:=by
 induction o with
 |lst xs=>obtain⟨z,its,n,r,e⟩:=x;exact⟨z,its,n,r,k _ _ (.inl rfl) e⟩
 |tup xs=>obtain⟨z,its,r,ob,e,c⟩:=x;exact⟨z,its,r,ob,k _ _ (.inl rfl) e,c⟩
 |dK kvs=>obtain⟨z,y,vs,r,ob,es,ep,e,c⟩:=x;exact⟨z,y,vs,r,ob,es,ep,k _ _ (.inl rfl) e,c⟩
 |dT kvs=>
  obtain⟨z,y,xs,r,ob,es,ep,e,c⟩:=x;exact⟨z,y,xs,Paired.mapP r fun p q z=>⟨z.1,ht _ _ z.2.1,z.2.2⟩,ob,es,ep,k _ _ (.inl rfl) e,c⟩
 |set S n=>obtain⟨ob,es,ep,t,e,c⟩:=x;exact⟨ob,es,ep,t,k _ _ (.inl rfl) e,c⟩
 |ins C dx fs=>
  obtain⟨d,z,ne,e,mA,⟨od,es,ep,e2,c⟩,r⟩:=x;exact⟨ho _ d,z,ne,k _ _ (.inl rfl) e,mA,⟨od,es,ep,k _ _ (.inr d) e2,c⟩,r⟩
 |own y=>obtain⟨ob,e⟩:=x;exact⟨ob,k _ _ (.inl rfl) e⟩
 |xd fs=>obtain⟨mA,⟨od,es,ep,e,c⟩,r⟩:=x;exact⟨mA,⟨od,es,ep,k _ _ (.inl rfl) e,c⟩,r⟩
 |rng lo hi=>obtain⟨t,u,v,e⟩:=x;exact⟨t,u,v,k _ _ (.inl rfl) e⟩
 |frz ob u ih=>obtain⟨e,q⟩:=x;exact⟨k _ _ (.inl rfl) e,ih q⟩
 |tbl ps=>
  have e:h.get? a=some {cls:= .none,data:= .fields ps}:=x;show h'.get? a=some {cls:= .none,data:= .fields ps};exact k a _ (.inl rfl) e
 |met f y=>
  have e:h.get? a=some (W.methodObj (.ref f) (.ref y)):=x;show h'.get? a=some (W.methodObj (.ref f) (.ref y));exact k a _ (.inl rfl) e
 |ext φ=>obtain⟨p,⟨o,e⟩,st⟩:=x;exact⟨st _ _ p fun o q=>k _ _ (.inl rfl) q,⟨o,k _ _ (.inl rfl) e⟩,st⟩
theorem HOk.lt (x:HOk P w H h) (e:H a=some o):a<h.objs.size:=(x a o e).lt
theorem HOk.fresh (x:HOk P w H h) (e:h.objs.size<=a):H a=none:=by
 cases q:H a with
 |none=>rfl
 |some u=>exact absurd (AY (x.lt q) e) (Bm _)
theorem HOk.kept (x:HOk P w H h) (k:∀b u,h.get? b=some u->h'.get? b=some u):HOk P w H h':=fun a o e=>
 (x a o e).stay (fun b u _ q=>k b u q) (fun _ q=>q) fun _ _ q=>q
theorem HOk.laid (x:HOk P w H h) (k:∀b u,h.get? b=some u->h'.get? b=some u) (hp:h.objs.size<=a) (new:aQ_ P w (upd H a o) h' a o):HOk P w (upd H a o) h':=fun b u e=>by
 have hn:=x.fresh hp;by_cases hb:b=a
 .subst hb;rw [ae_] at e;cases e;exact new
 .rw [aj_ hb] at e;exact(x b u e).stay (fun c v _ q=>k c v q) (fun c q=>by rw [aj_ (ao_ q hn)];exact q) fun c xs q=>by rw [aj_ (ao_ q hn)];exact q
end
def Rd (H:Hp) (a:Addr) (u:HO):Prop:=H a=some u\/∃o,H a=some (.frz o u)
theorem Rd.ok {P:Program}{w:World}{H:Hp}{h:Heap}{a:Addr}{u:HO} (r:Rd H a u) (x:HOk P w H h):aQ_ P w H h a u:=by
 rcases r with r|⟨o,r⟩
 .exact x a u r
 .obtain⟨_,q⟩:=x a _ r;exact q
def Mut:Option HO->Prop
 |some (.lst _)=>True
 |some (.dK _)=>True
 |some (.dT _)=>True
 |some (.set _ _)=>True
 |some (.ins _ _ _)=>True
 |some (.ext _)=>True
 |_=>False
section
variable {P:Program}{w:World}{H:Hp}{h h':Heap}{x e:Addr}{o':HO}
theorem HOk.write (ok:HOk P w H h) (mu:Mut (H x)) (he:e=x\/H e=some (.own x)) (k:∀b u,b≠e->h.get? b=some u->h'.get? b=some u) (heo:∃u,h'.get? e=some u)
  (new:aQ_ P w (upd H x o') h' x o'):HOk P w (upd H x o') h':=fun b u q=>by
 have nown:∀c y,H c=some (.own y)->c≠x:=fun c y r z=>by subst z;rw [r] at mu;exact mu
 have ntup:∀c xs,H c=some (.tup xs)->c≠x:=fun c xs r z=>by subst z;rw [r] at mu;exact mu
 by_cases hb:b=x
 .subst hb;rw [ae_] at q;cases q;exact new
 .rw [aj_ hb] at q;by_cases hbe:b=e
  .have q':H b=some (.own x):=by
    rcases he with z|z
    .exact absurd (hbe.trans z) hb
    .rw [hbe];exact z
   rw [q] at q';cases q';obtain⟨v,hv⟩:=heo;exact⟨v,by rw [hbe];exact hv⟩
  .refine(ok b u q).stay (fun c v hc r=>k c v ?_ r) (fun c r=>by rw [aj_ (nown c b r)];exact r) fun c xs r=>by rw [aj_ (ntup c xs r)];exact r
   rcases hc with rfl|hc
   .exact hbe
   .rintro rfl;rcases he with z|z
    .exact nown c b hc z
    .rw [hc] at z;cases z;exact hb rfl
end
structure Un (fs ex:List Addr) (H H':Hp) (h h':Heap):Prop where
 keep:∀b o,h.get? b=some o->H b=none->b∉fs->b∉ex->h'.get? b=some o
 slot:∀b o,h.get? b=some o->H b=none->b∈fs->b∉ex->∃sl,h'.get? b=some {o with slots:=sl}
 free:∀b o,h.get? b=some o->H b=none->b∉ex->H' b=none
 there:∀b o,h.get? b=some o->b∉ex->∃o',h'.get? b=some o'
 tups:∀b xs,H b=some (.tup xs)->H' b=some (.tup xs)
 frzs:∀b o u,H b=some (.frz o u)->H' b=some (.frz o u)
 tbls:∀b ps,H b=some (.tbl ps)->∃more,H' b=some (.tbl (ps++more))
section
variable {fs fs' ex ex':List Addr}{H H1 H2:Hp}{h h1 h2 h':Heap}{a x e:Addr}{o:HO}
theorem Un.any (u:Un fs ex H H1 h h1) {b:Addr}{ob:Obj} (q:h.get? b=some ob) (n:H b=none) (hx:b∉ex):∃sl,h1.get? b=some {ob with slots:=sl}:=by
 by_cases hb:b∈fs
 .exact u.slot b ob q n hb hx
 .exact⟨ob.slots,u.keep b ob q n hb hx⟩
theorem Un.kept (k:∀b u,h.get? b=some u->h'.get? b=some u):Un fs ex H H h h':=
 ⟨fun b ob q _ _ _=>k b ob q,fun b ob q _ _ _=>⟨ob.slots,k b ob q⟩,fun _ _ _ n _=>n,fun b ob q _=>⟨ob,k b ob q⟩,fun _ _ q=>q,fun _ _ _ q=>q,fun _ ps q=>⟨#[],by rw [q];simp⟩⟩
theorem Un.refl:Un fs ex H H h h:=Un.kept fun _ _ q=>q
theorem Un.laid (k:∀b u,h.get? b=some u->h'.get? b=some u) (hp:h.objs.size<=a) (hn:H a=none):Un fs ex H (upd H a o) h h' where
 keep:=fun b u q _ _ _=>k b u q
 slot:=fun b u q _ _ _=>⟨u.slots,k b u q⟩
 free:=fun b u q n _=>by rw [aj_ (AI (AY (AF q) hp))];exact n
 there:=fun b u q _=>⟨u,k b u q⟩
 tups:=fun b xs q=>by rw [aj_ (ao_ q hn)];exact q
 frzs:=fun b u xs q=>by rw [aj_ (ao_ q hn)];exact q
 tbls:=fun b ps q=>⟨#[],by rw [aj_ (ao_ q hn),q];simp⟩
theorem Un.write (mu:Mut (H x)) (he:e=x\/H e=some (.own x)) (k:∀b u,b≠e->h.get? b=some u->h'.get? b=some u) (heo:∃u,h'.get? e=some u):Un fs ex H (upd H x o) h h':=by
 have hx:∀b,H b=none->b≠x:=fun b n z=>by subst z;rw [n] at mu;exact mu
 have hb:∀b,H b=none->b≠e:=fun b n z=>by
  subst z;rcases he with r|r
  .exact hx b n r
  .rw [n] at r;cases r
 have hm:∀b u,H b=some u->¬Mut (some u)->b≠x:=fun b u q nm z=>by subst z;rw [q] at mu;exact nm mu
 refine⟨fun b u q n _ _=>k b u (hb b n) q,fun b u q n _ _=>⟨u.slots,k b u (hb b n) q⟩,fun b u q n _=>by rw [aj_ (hx b n)];exact n,fun b u q _=> ?_,
  fun b xs q=>by rw [aj_ (hm b _ q fun z=>z)];exact q,fun b u xs q=>by rw [aj_ (hm b _ q fun z=>z)];exact q,fun b ps q=>⟨#[],by rw [aj_ (hm b _ q fun z=>z),q];simp⟩⟩
 by_cases hbe:b=e
 .subst hbe;exact heo
 .exact⟨u,k b u hbe q⟩
end
def trk (h:Heap) (H:Hp):List Addr:=(List.range h.objs.size).filter fun a=>(H a).isSome
def mV_ (h:Heap) (H:Hp):Heap:=W.hideAll h (trk h H)
theorem lG_ (h:Heap) (H:Hp):(mV_ h H).objs.size=h.objs.size:=W.hideAll_size _ _
theorem mU_ {h:Heap}{H:Hp}{b:Addr}{o:Obj} (e:h.get? b=some o) (n:H b=none):(mV_ h H).get? b=some o:=
 W.hideAll_get _ e fun hm=>by
  have q:(H b).isSome=true:=(Cr.mp hm).2;rw [n] at q;simp at q
theorem oF_ {h:Heap}{H:Hp}{b:Addr}{o:Obj} (e:(mV_ h H).get? b=some o):h.get? b=some o/\H b=none:=by
 have e':h.get? b=some o:=W.of_hideAll (trk h H) e;refine⟨e', ?_⟩;cases q:H b with
 |none=>rfl
 |some x=>
  have hm:b∈trk h H:=Cr.mpr ⟨BN.mpr (AF e'),by simp [q]⟩;have z:(mV_ h H).get? b=none:=W.hideAll_none (trk h H) hm;rw [z] at e;cases e
def pn_ (g h:Heap) (L:Addr):List (Addr×Obj):=(List.range h.objs.size).filterMap fun a=>if a=L\/(g.get? a).isSome=true then none else(h.get? a).map fun o=>(a,o)
def dT_ (g h:Heap) (L d:Addr):List (Addr×Obj):=(pn_ g h L).filter fun p=>decide (p.1≠d)
end L2
namespace L2
open PySem PySem.Spec PyProof.Rows
structure Mod (K:W.Frag) (mg:Str->Option Value) (base:Heap):Prop where
 kin:K.In base
 glob:base.Ns mainGlobals mg
 blt:∃mb,base.Ns builtinsNs mb/\∀x:Str,x≠"__name__"->mb x=bootBuiltins x
 nolimit:base.NoLimit
structure Cx where
 prog:Program
 w:World
 K:W.Frag
 mg:Str->Option Value
 base:Heap
 A:Around
 N:List Str
 s₀:Shared
 H₀:Hp
 env:Env
 outer:List Env
 stack:List Env
 ex:List Addr
 fn:Str->Bool
 calm:Bool
 pn:List (Addr×Obj)
 xe:Value->Shared->Prop
def frs (l:List Env):List Addr:=l.filterMap (·.frame)
abbrev Cx.fs (X:Cx):List Addr:=frs X.outer
def Vis (sc:Scope) (x:Str):Prop:=sc.names.lookup x=some .local\/sc.names.lookup x=some .cell\/sc.names.lookup x=some .free
def Loc (sc:Scope) (x:Str):Prop:=sc.names.lookup x=some .local\/sc.names.lookup x=some .cell
def s3_ (env:Env) (h:Heap) (m:Str->Option Value) (x:Str) (u:Value):Prop:=
 (env.kindOf x=some .local/\m x=some u)\/((env.kindOf x=some .cell\/env.kindOf x=some .free)/\∃c,env.cells.lookup x=some c/\h.IsCell c (some u))
structure Cx.Ok (X:Cx):Prop where
 mod:Mod X.K X.mg X.base
 kind:X.env.scope.kind= .function
 glob:X.env.globals=mainGlobals
 blt:X.env.builtins=builtinsNs
 above:X.s₀.heap.objs.size<=X.env.locals
 inj:∀x y c,X.env.cells.lookup x=some c->X.env.cells.lookup y=some c->x=y
 has:∀x,(X.env.kindOf x=some .cell\/X.env.kindOf x=some .free)->∃c,X.env.cells.lookup x=some c
 cab:∀x c,X.fn x=true->X.env.cells.lookup x=some c->X.s₀.heap.objs.size<=c
 hd:X.calm=true->X.A.handled=none
 frames:X.A.frames=some X.stack
 stk:X.stack=X.outer\/(X.stack=X.env::X.outer/\X.env.frame=some X.env.locals)
 exf:∀b∈X.ex,b≠X.env.locals/\∀x c,X.env.cells.lookup x=some c->c≠b
 bs:∀b o,X.base.get? b=some o->X.s₀.heap.get? b=some o/\X.H₀ b=none
 bsz:X.base.objs.size<=X.s₀.heap.objs.size
 noex:∀b o,X.base.get? b=some o->b∉X.ex
 exfs:∀b∈X.ex,b∉X.fs
 funs:X.s₀.heap.FunFrames X.base X.outer
 frf:∀b∈X.fs,X.H₀ b=none
structure Inv (X:Cx) (pins:List (Addr×Obj)) (σ:List (Option V)) (H:Hp) (s:Shared):Prop where
 ok:X.Ok
 os:s.os=X.s₀.os
 bare:AllBare s.gens
 base:Un X.fs X.ex X.H₀ H X.s₀.heap s.heap
 loc:∃m,s.heap.Ns X.env.locals m/\∀(i:Nat) (x:Str) (v:V),X.N[i]? =some x->σ[i]? =some (some v)->Vis X.env.scope x->∃u,be_ v u/\s3_ X.env s.heap m x u
 cell:∀x c,X.env.cells.lookup x=some c->∃v,s.heap.IsCell c v
 free:H X.env.locals=none
 freeC:∀x c,X.env.cells.lookup x=some c->H c=none
 pin:∀p∈X.pn++pins,s.heap.get? p.1=some p.2/\H p.1=none/\p.1≠X.env.locals/\p.1∉X.fs/\∀v,p.2.data≠ .cell v
 hok:HOk X.prog X.w H s.heap
 len:σ.length=X.N.length
section
variable {X:Cx}{pins:List (Addr×Obj)}{σ:List (Option V)}{H H':Hp}{s:Shared}{h':Heap}
theorem Cx.Ok.nofr (ok:X.Ok) {b:Addr}{o:Obj} (e:X.base.get? b=some o):b∉X.fs:=fun hb=>by
 have:=(ok.funs.mem hb).1;rw [e] at this;cases this
theorem Inv.bs (I:Inv X pins σ H s):∀b o,X.base.get? b=some o->s.heap.get? b=some o/\H b=none:=fun b o e=>
 ⟨I.base.keep b o (I.ok.bs b o e).1 (I.ok.bs b o e).2 (I.ok.nofr e) (I.ok.noex b o e),I.base.free b o (I.ok.bs b o e).1 (I.ok.bs b o e).2 (I.ok.noex b o e)⟩
theorem Inv.bk (I:Inv X pins σ H s):∀b o,X.base.get? b=some o->s.heap.get? b=some o:=fun b o e=>(I.bs b o e).1
theorem Inv.mod (I:Inv X pins σ H s):Mod X.K X.mg X.base:=I.ok.mod
theorem Inv.kIn (I:Inv X pins σ H s):X.K.In s.heap:=I.ok.mod.kin.keeps I.bk
theorem Inv.lt (I:Inv X pins σ H s):X.env.locals<s.heap.objs.size:=let ⟨_,hn,_⟩:=I.loc;hn.lt
theorem Inv.sz (I:Inv X pins σ H s):X.s₀.heap.objs.size<=s.heap.objs.size:=Ai I.ok.above (Az I.lt)
theorem Inv.nofs (I:Inv X pins σ H s) {a:Addr} (h:s.heap.objs.size<=a):a∉X.fs:=fun hb=>by
 obtain⟨_,o,ho,_⟩:=I.ok.funs.mem hb;exact absurd (AY (AF ho) (Ai I.sz h)) (Bm _)
theorem Inv.cne (I:Inv X pins σ H s):∀x c,X.env.cells.lookup x=some c->c≠X.env.locals:=fun x c e z=>by
 obtain⟨v,o,ho,hd⟩:=I.cell x c e;obtain⟨m,⟨o',es,ep,ho',hd',_⟩,_⟩:=I.loc;rw [z,ho'] at ho;cases ho;rw [hd'] at hd;cases hd
theorem Inv.funs (I:Inv X pins σ H s):s.heap.FunFrames X.base X.outer:=by
 have all:∀(l:List Env),(∀b∈frs l,b∈X.fs)->X.s₀.heap.FunFrames X.base l->s.heap.FunFrames X.base l:=by
  intro l;induction l with
  |nil=>intro _ _;trivial
  |cons env r ih=>
   intro hs hl;obtain⟨hk,⟨L,o,hf,hn,ho,hd⟩,hr⟩:=hl;have hL:L∈X.fs:=hs L (by unfold frs;rw [List.filterMap_cons,hf];exact BA);obtain⟨sl,e⟩:=I.base.slot L o ho (I.ok.frf L hL) hL fun z=>I.ok.exfs L z hL;exact⟨hk,⟨L,_,hf,hn,e,hd⟩,ih (fun b hb=>hs b (by unfold frs;rw [List.filterMap_cons,hf];exact At _ hb)) hr⟩
 exact all X.outer (fun _ hb=>hb) I.ok.funs
theorem Inv.stack (I:Inv X pins σ H s):s.heap.FunFrames X.base X.stack:=by
 rcases I.ok.stk with e|⟨e,hf⟩
 .rw [e];exact I.funs
 .rw [e];obtain⟨m,hn,_⟩:=I.loc;refine .cons (by rw [I.ok.kind];decide) hf hn ?_ I.funs;exact Heap.get?_none_of_le (Ai I.ok.bsz I.ok.above)
theorem Inv.stkSub (I:Inv X pins σ H s):∀b∈frs X.stack,b∈X.env.locals::X.fs:=fun b hb=>by
 rcases I.ok.stk with e|⟨e,hf⟩
 .rw [e] at hb;exact At _ hb
 .rw [e] at hb;unfold frs at hb;rw [List.filterMap_cons,hf] at hb;exact hb
theorem Inv.stkFree (I:Inv X pins σ H s):∀b∈frs X.stack,H b=none:=fun b hb=>by
 rcases AN.mp (I.stkSub b hb) with e|hb
 .rw [e];exact I.free
 .obtain⟨_,o,ho,_⟩:=I.ok.funs.mem hb;exact I.base.free b o ho (I.ok.frf b hb) fun z=>I.ok.exfs b z hb
theorem Inv.step {g':Array GenState}{t':Nat}{d':Drawn}{ch:List Addr} (I:Inv X pins σ H s)
  (hch:∀b∈ch,(b∈X.ex\/X.s₀.heap.objs.size<=b)/\b≠X.env.locals/\(∀x c,X.env.cells.lookup x=some c->c≠b)/\∀p∈X.pn++pins,p.1≠b)
  (keep:∀b o,b≠X.env.locals->b∉X.fs->b∉ch->s.heap.get? b=some o->H b=none->h'.get? b=some o)
  (slot:∀b o,b≠X.env.locals->b∈X.fs->b∉ch->s.heap.get? b=some o->H b=none->∃sl,h'.get? b=some {o with slots:=sl}) (free:∀b o,b∉ch->s.heap.get? b=some o->H b=none->H' b=none)
  (there:∀b o,b∉ch->s.heap.get? b=some o->∃o',h'.get? b=some o')
  (tups:∀b xs,H b=some (.tup xs)->H' b=some (.tup xs)) (frzs:∀b o u,H b=some (.frz o u)->H' b=some (.frz o u)) (tbls:∀b ps,H b=some (.tbl ps)->∃more,H' b=some (.tbl (ps++more)))
  (ns:∀m,s.heap.Ns X.env.locals m->h'.Ns X.env.locals m) (hok:HOk X.prog X.w H' h') (hg:AllBare g'):
  Inv X pins σ H' {s with heap:=h',gens:=g',drawn:=d',toks:=t'}:=by
 have neL:∀b o,X.s₀.heap.get? b=some o->b≠X.env.locals:=fun b o e=>AI (AY (AF e) I.ok.above);have neC:∀b o,X.s₀.heap.get? b=some o->b∉X.ex->b∉ch:=fun b o e hx hb=>by
  rcases(hch b hb).1 with z|z
  .exact hx z
  .exact absurd (AY (AF e) z) (Bm _)
 have cellK:∀x c,X.env.cells.lookup x=some c->∀v,s.heap.IsCell c v->h'.IsCell c v:=fun x c e v ⟨o,ho,hd⟩=>by
  have nch:c∉ch:=fun z=>(hch c z).2.2.1 x c e rfl;by_cases hc:c∈X.fs
  .obtain⟨sl,q⟩:=slot c o (I.cne x c e) hc nch ho (I.freeC x c e);exact⟨_,q,hd⟩
  .exact⟨o,keep c o (I.cne x c e) hc nch ho (I.freeC x c e),hd⟩
 refine⟨I.ok,I.os,hg,⟨fun b o e n hb hx=> ?_,fun b o e n hb hx=> ?_,fun b o e n hx=> ?_,fun b o e hx=> ?_,fun b xs e=>tups b xs (I.base.tups b xs e),fun b o xs e=>frzs b o xs (I.base.frzs b o xs e),fun b ps e=> ?_⟩, ?_,fun x c e=> ?_, ?_,fun x c e=> ?_,fun p hp=> ?_,hok,I.len⟩
 .exact keep b o (neL b o e) hb (neC b o e hx) (I.base.keep b o e n hb hx) (I.base.free b o e n hx)
 .obtain⟨sl,e1⟩:=I.base.slot b o e n hb hx;obtain⟨sl',e2⟩:=slot b _ (neL b o e) hb (neC b o e hx) e1 (I.base.free b o e n hx);exact⟨sl',e2⟩
 .obtain⟨o',e1⟩:=I.base.there b o e hx;exact free b o' (neC b o e hx) e1 (I.base.free b o e n hx)
 .obtain⟨o',e1⟩:=I.base.there b o e hx;exact there b o' (neC b o e hx) e1
 .obtain⟨m1,e1⟩:=I.base.tbls b ps e;obtain⟨m2,e2⟩:=tbls b _ e1;exact⟨m1++m2,by rw [e2,Array.append_assoc]⟩
 .obtain⟨m,hn,hl⟩:=I.loc;refine⟨m,ns m hn,fun i x v e1 e2 e3=> ?_⟩;obtain⟨u,r,l⟩:=hl i x v e1 e2 e3;refine⟨u,r, ?_⟩;rcases l with l|⟨k,c,e,z⟩
  .exact .inl l
  .exact .inr ⟨k,c,e,cellK x c e _ z⟩
 .obtain⟨v,z⟩:=I.cell x c e;exact⟨v,cellK x c e v z⟩
 .obtain⟨m,⟨o,_,_,ho,_⟩,_⟩:=I.loc;exact free _ o (fun z=>(hch _ z).2.1 rfl) ho I.free
 .obtain⟨v,o,ho,hd⟩:=I.cell x c e;exact free c o (fun z=>(hch c z).2.2.1 x c e rfl) ho (I.freeC x c e)
 .obtain⟨e,n,ne,nf,d⟩:=I.pin p hp;have nch:p.1∉ch:=fun z=>(hch p.1 z).2.2.2 p hp rfl;exact⟨keep p.1 p.2 ne nf nch e n,free p.1 p.2 nch e n,ne,nf,d⟩
theorem Inv.un {t':Nat} (I:Inv X pins σ H s) (u:Un X.fs [] H H' s.heap h') (hok:HOk X.prog X.w H' h'):Inv X pins σ H' {s with heap:=h',toks:=t'}:=by
 obtain⟨m,⟨o,es,ep,ho,r⟩,_⟩:=id I.loc;obtain⟨sl,hL⟩:=u.any ho I.free (by simp);exact I.step (g':=s.gens) (d':=s.drawn) (ch:=[]) (fun _ z=>nomatch z) (fun b o _ hb _ e n=>u.keep b o e n hb (by simp)) (fun b o _ hb _ e n=>u.slot b o e n hb (by simp)) (fun b o _ e n=>u.free b o e n (by simp)) (fun b o _ e=>u.there b o e (by simp)) u.tups u.frzs u.tbls (fun m' hm=>by
  obtain⟨o',es',ep',ho',r'⟩:=hm;rw [ho] at ho';cases ho';exact⟨_,es',ep',hL,r'⟩) hok I.bare
theorem Inv.call {g':Array GenState}{t':Nat}{d':Drawn}{ch:List Addr} (I:Inv X pins σ H s) (u:Un (frs X.stack) ch H H' s.heap h') (hok:HOk X.prog X.w H' h') (hg:AllBare g')
  (hch:∀b∈ch,(b∈X.ex\/X.s₀.heap.objs.size<=b)/\b≠X.env.locals/\(∀x c,X.env.cells.lookup x=some c->c≠b)/\∀p∈X.pn++pins,p.1≠b):
  Inv X pins σ H' {s with heap:=h',gens:=g',drawn:=d',toks:=t'}:=by
 obtain⟨m,⟨o,es,ep,ho,r⟩,_⟩:=id I.loc;obtain⟨sl,hL⟩:=u.any ho I.free fun z=>(hch _ z).2.1 rfl;exact I.step (ch:=ch) hch (fun b o hL hb hc e n=>u.keep b o e n (fun z=>(AN.mp (I.stkSub b z)).elim hL hb) hc) (fun b o _ _ hc e n=>u.any e n hc) (fun b o hc e n=>u.free b o e n hc) (fun b o hc e=>u.there b o e hc) u.tups u.frzs u.tbls (fun m' hm=>by
  obtain⟨o',es',ep',ho',r'⟩:=hm;rw [ho] at ho';cases ho';exact⟨_,es',ep',hL,r'⟩) hok hg
theorem Inv.turned {t':Nat}{it:Addr} (I:Inv X pins σ H s) (k:∀b o,b≠it->s.heap.get? b=some o->h'.get? b=some o) (hn:H it=none) (hL:it≠X.env.locals)
  (h1:it∈X.ex\/X.s₀.heap.objs.size<=it) (h2:∀x c,X.env.cells.lookup x=some c->c≠it) (h3:∀p∈X.pn++pins,p.1≠it):Inv X pins σ H {s with heap:=h',toks:=t'}:=by
 have nit:∀b u,H b=some u->b≠it:=fun b u e z=>by rw [z,hn] at e;cases e
 refine I.step (g':=s.gens) (d':=s.drawn) (ch:=[it]) (fun b hb=> ?_) (fun b o _ _ hc e _=>k b o (fun z=>hc (by simp [z])) e) (fun b o _ _ hc e _=>⟨o.slots,k b o (fun z=>hc (by simp [z])) e⟩) (fun _ _ _ _ n=>n)
  (fun b o hc e=>⟨o,k b o (fun z=>hc (by simp [z])) e⟩) (fun _ _ e=>e) (fun _ _ _ e=>e) (fun b ps e=>⟨#[],by rw [e];simp⟩) (fun m hm=> ?_) (fun b u e=> ?_) I.bare
 .have e:b=it:=by simpa using hb
  subst e;exact⟨h1,hL,h2,h3⟩
 .obtain⟨o,es,ep,ho,r⟩:=hm;exact⟨o,es,ep,k _ o (Ne.symm hL) ho,r⟩
 .refine(I.hok b u e).stay (fun c v hc q=>k c v ?_ q) (fun _ q=>q) fun _ _ q=>q;rcases hc with z|z
  .rw [z];exact nit b u e
  .exact nit c _ z
theorem Inv.tok (I:Inv X pins σ H s) (t:Nat):Inv X pins σ H {s with toks:=t}:=I.un (h':=s.heap) (t':=t) Un.refl I.hok
theorem Inv.kept {t':Nat} (I:Inv X pins σ H s) (k:∀b u,s.heap.get? b=some u->h'.get? b=some u):Inv X pins σ H {s with heap:=h',toks:=t'}:=I.un (Un.kept k) (I.hok.kept k)
theorem Inv.laid {a:Addr}{o:HO}{t':Nat} (I:Inv X pins σ H s) (k:∀b u,s.heap.get? b=some u->h'.get? b=some u) (hp:s.heap.objs.size<=a) (new:aQ_ X.prog X.w (upd H a o) h' a o):
  Inv X pins σ (upd H a o) {s with heap:=h',toks:=t'}:=I.un (Un.laid k hp (I.hok.fresh hp)) (I.hok.laid k hp new)
theorem Inv.write {x e:Addr}{o:HO}{t':Nat} (I:Inv X pins σ H s) (mu:Mut (H x)) (he:e=x\/H e=some (.own x)) (k:∀b u,b≠e->s.heap.get? b=some u->h'.get? b=some u) (heo:∃u,h'.get? e=some u)
  (new:aQ_ X.prog X.w (upd H x o) h' x o):Inv X pins σ (upd H x o) {s with heap:=h',toks:=t'}:=I.un (Un.write mu he k heo) (I.hok.write mu he k heo new)
theorem Inv.weak {σ':List (Option V)} (I:Inv X pins σ H s) (hl:σ'.length=σ.length) (w:∀(i:Nat) v,σ'[i]? =some (some v)->σ[i]? =some (some v)):Inv X pins σ' H s:=
 ⟨I.ok,I.os,I.bare,I.base,let ⟨m,hn,hl'⟩:=I.loc;⟨m,hn,fun i x v e1 e2 e3=>hl' i x v e1 (w i v e2) e3⟩,I.cell,I.free,I.freeC,I.pin,I.hok,hl.trans I.len⟩
theorem Inv.pins_of {pins':List (Addr×Obj)} (I:Inv X pins σ H s) (h:∀p∈pins',s.heap.get? p.1=some p.2/\H p.1=none/\p.1≠X.env.locals/\p.1∉X.fs/\∀v,p.2.data≠ .cell v):Inv X pins' σ H s:=
 ⟨I.ok,I.os,I.bare,I.base,I.loc,I.cell,I.free,I.freeC,fun p hp=>(Cs.mp hp).elim (fun z=>I.pin p (List.mem_append_left _ z)) (h p),I.hok,I.len⟩
theorem iX_ {N:List Str} (hN:N.Nodup) {i j:Nat}{x:Str} (a:N[i]? =some x) (b:N[j]? =some x):i=j:=by
 obtain⟨h1,e1⟩:=AC.mp a;obtain⟨h2,e2⟩:=AC.mp b;exact(List.getElem_inj hN).mp (e1.trans e2.symm)
theorem kp_ {M:Model}{A:Around}{E:Value->Shared->Prop}{i:Nat}{x:Str}{v:V}{u:Value}{Q:Unit->Shared->Prop} (I:Inv X pins σ H s) (hN:X.N.Nodup) (hi:X.N[i]? =some x) (hx:Loc X.env.scope x) (r:be_ v u)
  (h:∀s',Inv X pins (σ.set i (some v)) H s'->(∃a,Heap.SameBut a s.heap s'.heap/\(a=X.env.locals\/X.env.cells.lookup x=some a))->Q () s') (hf:X.fn x=true\/X.env.scope.names.lookup x=some .local:=by first|exact .inl rfl|exact .inr rfl|assumption):wpAny M A (storeName X.env x u) Q E s:=by
 obtain⟨m,hn,hl⟩:=id I.loc;have hcls:(X.env.scope.kind== .class||(X.env.scope.kind== .module&&X.env.locals !=X.env.globals))=false:=by rw [I.ok.kind];rfl
 have hiσ:i<σ.length:=by rw [I.len];exact(AC.mp hi).1
 have cne:=I.cne;have tracked:∀{a:Addr}{h':Heap},(∃o,s.heap.get? a=some o/\H a=none)->Heap.SameBut a s.heap h'->HOk X.prog X.w H h':=fun{a h'} ha hs b ob e=>by
  obtain⟨_,_,hfree⟩:=ha;refine(I.hok b ob e).stay (fun c w' hc q=>(hs.2 c ?_).trans q) (fun _ q=>q) fun _ _ q=>q;rintro rfl;rcases hc with rfl|hc
  .rw [hfree] at e;cases e
  .rw [hfree] at hc;cases hc
 rcases hx with hk|hk
 .refine wpAny_storeName_local hk hn (fun h' hn' hs=> ?_) hcls;obtain⟨oL,_,_,hoL,_⟩:=id hn;refine h _ ⟨I.ok,I.os,I.bare,⟨fun b o e n hb hx=> ?_,fun b o e n hb hx=> ?_,I.base.free,fun b o e hx=> ?_,I.base.tups,I.base.frzs,I.base.tbls⟩,⟨_,hn',fun j y v' e1 e2 e3=> ?_⟩,fun y c e=> ?_,I.free,I.freeC,fun p hp=> ?_,tracked ⟨oL,hoL,I.free⟩ hs,by simpa using I.len⟩ ⟨_,hs, .inl rfl⟩
  .exact(hs.2 b (AI (AY (AF e) I.ok.above))).trans (I.base.keep b o e n hb hx)
  .obtain⟨sl,e1⟩:=I.base.slot b o e n hb hx;exact⟨sl,(hs.2 b (AI (AY (AF e) I.ok.above))).trans e1⟩
  .obtain⟨o',e1⟩:=I.base.there b o e hx;exact⟨o',(hs.2 b (AI (AY (AF e) I.ok.above))).trans e1⟩
  .by_cases hj:j=i
   .subst hj;rw [hi] at e1;cases e1;rw [List.getElem?_set_self hiσ] at e2;cases e2;exact⟨u,r, .inl ⟨hk,by simp⟩⟩
   .rw [BS (Ne.symm hj)] at e2;obtain⟨u',r',q⟩:=hl j y v' e1 e2 e3;refine⟨u',r', ?_⟩;rcases q with⟨k,e⟩|⟨k,c,e,z⟩
    .refine .inl ⟨k, ?_⟩;have:y≠x:=fun e=>hj (iX_ hN e1 (e▸hi));simp [this,e]
    .exact .inr ⟨k,c,e,z.sameBut hs (cne y c e)⟩
  .obtain⟨w',z⟩:=I.cell y c e;exact⟨w',z.sameBut hs (cne y c e)⟩
  .obtain⟨e,n,ne,nf,d⟩:=I.pin p hp;exact⟨(hs.2 p.1 ne).trans e,n,ne,nf,d⟩
 .have hfn:X.fn x=true:=by
   rcases hf with z|z
   .exact z
   .rw [z] at hk;cases hk
  obtain⟨c,hc⟩:=I.ok.has x (.inl hk);obtain⟨w',z⟩:=I.cell x c hc;refine wpAny_storeName_cell I.ok.kind hk hc z (fun h' hc' hs=> ?_);obtain⟨oc,hoc,hocd⟩:=id z;refine h {s with heap:=h'} ⟨I.ok,I.os,I.bare,⟨fun b o e n hb hx=> ?_,fun b o e n hb hx=> ?_,I.base.free,fun b o e hx=> ?_,I.base.tups,I.base.frzs,I.base.tbls⟩,⟨m,hn.sameBut hs (Ne.symm (cne x c hc)),fun j y v' e1 e2 e3=> ?_⟩,fun y c' e=> ?_,I.free,I.freeC,fun p hp=> ?_,tracked ⟨oc,hoc,I.freeC x c hc⟩ hs,by simpa using I.len⟩ ⟨c,hs, .inr hc⟩
  .exact(hs.2 b (AI (AY (AF e) (I.ok.cab x c hfn hc)))).trans (I.base.keep b o e n hb hx)
  .obtain⟨sl,e1⟩:=I.base.slot b o e n hb hx;exact⟨sl,(hs.2 b (AI (AY (AF e) (I.ok.cab x c hfn hc)))).trans e1⟩
  .obtain⟨o',e1⟩:=I.base.there b o e hx;exact⟨o',(hs.2 b (AI (AY (AF e) (I.ok.cab x c hfn hc)))).trans e1⟩
  .by_cases hj:j=i
   .subst hj;rw [hi] at e1;cases e1;rw [List.getElem?_set_self hiσ] at e2;cases e2;exact⟨u,r, .inr ⟨.inl hk,c,hc,hc'⟩⟩
   .rw [BS (Ne.symm hj)] at e2;obtain⟨u',r',q⟩:=hl j y v' e1 e2 e3;refine⟨u',r', ?_⟩;rcases q with q|⟨k,c',e,z'⟩
    .exact .inl q
    .refine .inr ⟨k,c',e,z'.sameBut hs ?_⟩;rintro rfl;exact hj (iX_ hN e1 (I.ok.inj _ _ _ e hc▸hi))
  .by_cases hcc:c'=c
   .subst hcc;exact⟨_,hc'⟩
   .obtain⟨w2,z2⟩:=I.cell y c' e;exact⟨w2,z2.sameBut hs hcc⟩
  .obtain⟨e,n,ne,nf,d⟩:=I.pin p hp;refine⟨(hs.2 p.1 ?_).trans e,n,ne,nf,d⟩;intro q;rw [q,hoc] at e;have q':oc=p.2:=Ap e;exact d w' (by rw [<-q'];exact hocd)
theorem de_ {M:Model}{A:Around}{E:Value->Shared->Prop}{i:Nat}{x:Str}{v:V}{u:Value}{Q:Unit->Shared->Prop} (I:Inv X pins σ H s) (hN:X.N.Nodup) (hi:X.N[i]? =some x) (hx:Loc X.env.scope x) (r:be_ v u)
  (h:∀s',Inv X pins (σ.set i (some v)) H s'->Q () s') (hf:X.fn x=true\/X.env.scope.names.lookup x=some .local:=by first|exact .inl rfl|exact .inr rfl|assumption):wpAny M A (storeName X.env x u) Q E s:=
 kp_ I hN hi hx r (fun s' I' _=>h s' I') hf
theorem Inv.call' {s':Shared}{ch:List Addr} (I:Inv X pins σ H s) (ho:s'.os=s.os) (u:Un (frs X.stack) ch H H' s.heap s'.heap) (hok:HOk X.prog X.w H' s'.heap) (hg:AllBare s'.gens)
  (hch:∀b∈ch,(b∈X.ex\/X.s₀.heap.objs.size<=b)/\b≠X.env.locals/\(∀x c,X.env.cells.lookup x=some c->c≠b)/\∀p∈X.pn++pins,p.1≠b):Inv X pins σ H' s':=by
 obtain⟨h',g',d',t',o'⟩:=s';have e:o'=s.os:=ho;subst e;exact I.call (g':=g') (t':=t') (d':=d') u hok hg hch
end
abbrev XK:=Value->Option Addr->Hp->Prop
abbrev St:=List (Option V)
abbrev VK:=V->Hp->Prop
abbrev TE:=St->Hp->VK->Prop
abbrev TT:=St->Hp->(Bool->Hp->Prop)->Prop
abbrev TA:=St->Hp->(List V->Hp->Prop)->Prop
structure Ends where
 nx:St->Hp->Prop
 rt:VK
 bk:St->Hp->Prop:=fun _ _=>False
 ct:St->Hp->Prop:=fun _ _=>False
abbrev TS:=Ends->St->Hp->Prop
def EP (X:Cx) (pins:List (Addr×Obj)) (σ:St) (Q:VK) (u:Value) (s':Shared):Prop:=∃v H',Inv X pins σ H' s'/\be_ v u/\Q v H'
def TP (X:Cx) (pins:List (Addr×Obj)) (σ:St) (Q:Bool->Hp->Prop) (b:Bool) (s':Shared):Prop:=∃H',Inv X pins σ H' s'/\Q b H'
def AP (X:Cx) (pins:List (Addr×Obj)) (σ:St) (Q:List V->Hp->Prop) (us:List Value) (s':Shared):Prop:=∃vs H',Inv X pins σ H' s'/\aV_ vs us/\Q vs H'
def SP (X:Cx) (pins:List (Addr×Obj)) (D:Ends) (f:Flow) (s':Shared):Prop:=
 match f with
 | .next=>∃σ' H',Inv X pins σ' H' s'/\D.nx σ' H'
 | .brk=>∃σ' H',Inv X pins σ' H' s'/\D.bk σ' H'
 | .cont=>∃σ' H',Inv X pins σ' H' s'/\D.ct σ' H'
 | .ret u=>∃v σ' H',Inv X pins σ' H' s'/\be_ v u/\D.rt v H'
def PE (X:Cx) (e:Expr) (t:TE):Prop:=
 ∀(pins:List (Addr×Obj)) (s:Shared) (σ:St) (H:Hp) (Q:VK),Inv X pins σ H s->t σ H Q->wpAny (model X.prog X.w) X.A (eval e X.env) (EP X pins σ Q) X.xe s
def PT (X:Cx) (e:Expr) (t:TT):Prop:=
 ∀(pins:List (Addr×Obj)) (s:Shared) (σ:St) (H:Hp) (Q:Bool->Hp->Prop),Inv X pins σ H s->t σ H Q->wpAny (model X.prog X.w) X.A (isTrue e X.env (eval e X.env)) (TP X pins σ Q) X.xe s
def PW (X:Cx) (e:Expr) (t:TT):Prop:=
 ∀(whole:Sem Value) (pins:List (Addr×Obj)) (s:Shared) (σ:St) (H:Hp) (Q:Bool->Hp->Prop),Inv X pins σ H s->t σ H Q->wpAny (model X.prog X.w) X.A (isTrue e X.env whole) (TP X pins σ Q) X.xe s
theorem PW.pt {X:Cx}{e:Expr}{t:TT} (h:PW X e t):PT X e t:=h _
def PA (X:Cx) (es:List Expr) (t:TA):Prop:=
 ∀(pos:Pos) (pins:List (Addr×Obj)) (s:Shared) (σ:St) (H:Hp) (Q:List V->Hp->Prop),Inv X pins σ H s->t σ H Q->wpAny (model X.prog X.w) X.A (spliced (backTo pos (starEach es X.env))) (AP X pins σ Q) X.xe s
def PS (X:Cx) (st:Stmt) (t:TS):Prop:=
 ∀(pins:List (Addr×Obj)) (s:Shared) (σ:St) (H:Hp) (D:Ends),Inv X pins σ H s->t D σ H->wpAny (model X.prog X.w) X.A (exec st X.env) (SP X pins D) X.xe s
def PSs (X:Cx) (st:List Stmt) (t:TS):Prop:=
 ∀(pins:List (Addr×Obj)) (s:Shared) (σ:St) (H:Hp) (D:Ends),Inv X pins σ H s->t D σ H->wpAny (model X.prog X.w) X.A (execs st X.env) (SP X pins D) X.xe s
theorem thn {α:Type}{t:Sem α}{Q Q':α->Shared->Prop}{M:Model}{A:Around}{E:Value->Shared->Prop}{s:Shared} (h:wpAny M A t Q E s) (hQ:∀a s,Q a s->Q' a s):wpAny M A t Q' E s:=BH h hQ fun _ _ x=>x
end L2
namespace L2
open PySem PySem.Spec PyProof.Rows
section
variable {X:Cx}
theorem bin {a b:Expr}{ta tb:TE} (ha:PE X a ta) (hb:PE X b tb) {pins:List (Addr×Obj)}{s:Shared}{σ:St}{H:Hp}{R:V->V->Hp->Prop} (I:Inv X pins σ H s) (h:ta σ H fun x H1=>tb σ H1 fun y H2=>R x y H2)
  {α:Type}{Q:α->Shared->Prop}{f:Value->Value->Sem α}
  (hf:∀v u s2 x y H2,Inv X pins σ H2 s2->be_ x v->be_ y u->R x y H2->wpAny (model X.prog X.w) X.A (f v u) Q X.xe s2):
  wpAny (model X.prog X.w) X.A (eval a X.env) (fun v s₁=>wpAny (model X.prog X.w) X.A (eval b X.env) (fun u s₂=>wpAny (model X.prog X.w) X.A (f v u) Q X.xe s₂) X.xe s₁) X.xe s:=by
 refine thn (ha pins s σ H _ I h) fun v s1 ⟨x,H1,I1,r1,q1⟩=> ?_;refine thn (hb pins s1 σ H1 _ I1 q1) fun u s2 ⟨y,H2,I2,r2,q2⟩=> ?_;exact hf v u s2 x y H2 I2 r1 r2 q2
def q4_ (i:Nat):TE:=fun σ H Q=>∃v,σ[i]? =some (some v)/\Q v H
def tC (v:V):TE:=fun _ H Q=>Q v H
theorem qf_ {i:Nat}{x:Str}{pos:Pos} (hN:X.N[i]? =some x) (hv:Vis X.env.scope x) (hd:(x==("__debug__":Str))=false:=by decide) (hcd:(x==("__classdict__":Str))=false:=by decide):PE X (.Name x pos) (q4_ i):=by
 intro pins s σ H Q I h;obtain⟨v,e,h⟩:=h;obtain⟨m,hn,hl⟩:=I.loc;obtain⟨u,r,l⟩:=hl i x v hN e hv;have fin:EP X pins σ Q u s:=⟨v,H,I,r,h⟩;rcases l with⟨hk,hm⟩|⟨hk,c,hc,hcell⟩
 .exact wpAny_Name (wpAny_loadName_local I.ok.kind hk hn hm fin) hd
 .rcases hk with hk|hk
  .exact wpAny_Name (wpAny_loadName_cell I.ok.kind hk hc hcell fin) hd
  .exact wpAny_Name (wpAny_loadName_free I.ok.kind hk hc hcell fin hcd) hd
theorem ac_ {i j pos}:PE X (.Constant (.int i) j pos) (tC (.int i)):=fun _ _ _ H _ I h=>wpAny_Constant_int ⟨.int i,H,I.tok _,⟨_,rfl⟩,h⟩
theorem h5_ {b j pos}:PE X (.Constant (.bool b) j pos) (tC (.bl b)):=fun _ _ _ H _ I h=>Constant_bool ⟨.bl b,H,I,rfl,h⟩
theorem qh_ {j pos}:PE X (.Constant .none j pos) (tC .non):=fun _ _ _ H _ I h=>Constant_none ⟨.non,H,I,rfl,h⟩
theorem kU_ {x j pos}:PE X (.Constant (.str x) j pos) (tC (.str x)):=fun _ _ _ H _ I h=>Calls.Constant_str ⟨.str x,H,I.tok _,⟨_,rfl⟩,h⟩
def Gl (X:Cx) (x:Str):Prop:=X.env.kindOf x=some .globalImplicit
theorem gl_ {E:Value->Shared->Prop}{pins:List (Addr×Obj)}{s:Shared}{σ:St}{H:Hp}{x:Str}{u:Value}{pos:Pos}{Q:Value->Shared->Prop} (I:Inv X pins σ H s) (hg:Gl X x) (hm:X.mg x=some u) (h:Q u s)
  (hd:(x==("__debug__":Str))=false:=by decide):wpAny (model X.prog X.w) X.A (eval (.Name x pos) X.env) Q E s:=
 Calls.Name_function_global I.ok.kind hg (Calls.loadGlobal_global (by rw [I.ok.glob];exact I.mod.glob.keeps I.bk) hm h) hd
theorem cI_ {E:Value->Shared->Prop}{pins:List (Addr×Obj)}{s:Shared}{σ:St}{H:Hp}{x:Str}{u:Value}{pos:Pos}{Q:Value->Shared->Prop} (I:Inv X pins σ H s) (hg:Gl X x) (hm:X.mg x=none) (hv:bootBuiltins x=some u) (h:Q u s)
  (hn:x≠"__name__":=by decide) (hd:(x==("__debug__":Str))=false:=by decide):wpAny (model X.prog X.w) X.A (eval (.Name x pos) X.env) Q E s:=by
 obtain⟨mb,h1,h2⟩:=I.mod.blt;exact Calls.Name_function_global I.ok.kind hg (Calls.loadGlobal_builtin (by rw [I.ok.glob];exact I.mod.glob.keeps I.bk) hm (by rw [I.ok.blt];exact h1.keeps I.bk) ((h2 x hn).trans hv) h) hd
theorem ex_ {x:Str}{v:V}{u:Value}{pos:Pos} (hg:Gl X x) (hm:X.mg x=some u) (r:be_ v u) (hd:(x==("__debug__":Str))=false:=by decide):PE X (.Name x pos) (tC v):=
 fun _ _ _ H _ I h=>gl_ I hg hm ⟨v,H,I,r,h⟩ hd
theorem eA_ {x:Str}{v:V}{u:Value}{pos:Pos} (hg:Gl X x) (hm:X.mg x=none) (hv:bootBuiltins x=some u) (r:be_ v u) (hn:x≠"__name__":=by decide) (hd:(x==("__debug__":Str))=false:=by decide):PE X (.Name x pos) (tC v):=
 fun _ _ _ H _ I h=>cI_ I hg hm hv ⟨v,H,I,r,h⟩ hn hd
variable {a b:Expr}{ta tb:TE}{pos:Pos}
def PC (X:Cx) (op:CmpOp) (a b:Expr) (t:TE):Prop:=
 ∀(pins:List (Addr×Obj)) (s:Shared) (σ:St) (H:Hp) (Q:VK),Inv X pins σ H s->t σ H Q->
  wpAny (model X.prog X.w) X.A (eval a X.env) (fun v s₁=>wpAny (model X.prog X.w) X.A (eval b X.env) (fun u s₂=>wpAny (model X.prog X.w) X.A (compareOp op v u) (EP X pins σ Q) X.xe s₂) X.xe s₁) X.xe s
theorem mG_ (b:Expr) {op:CmpOp} (h:op≠ .In) (h2:op≠ .NotIn):behindInMarks op b=false:=by
 have e1:(op==CmpOp.In)=false:=by cases op<;>first|rfl|exact absurd rfl h
 have e2:(op==CmpOp.NotIn)=false:=by cases op<;>first|rfl|exact absurd rfl h2
 cases b<;>simp [behindInMarks,e1,e2]
def tB (t:TE):TT:=fun σ H Q=>t σ H fun x H1=>∃c,x= .bl c/\Q c H1
theorem p7_ {op:CmpOp}{t:TE} (h:PC X op a b t) (h1:behindInMarks op b=false:=by first|exact mG_ _ (by decide) (by decide)|rfl):PT X (.Compare a [op] [b] pos) (tB t):=by
 intro pins s σ H Q I hw;refine wpAny_isTrue_Compare1 (thn (h pins s σ H _ I hw) fun v s1 h1=>thn h1 fun u s2 h2=>thn h2 fun c s3 ⟨x,H1,I1,r1,q1⟩=> ?_) h1;obtain⟨d,rfl,q⟩:=q1;cases r1;exact BF ⟨H1,I1,q⟩
theorem fs_ {e:Expr}{t:TE} (h:PE X e t) (he:∀whole,isTrue e X.env whole=(do let v<-whole;standAt e.pos;holding [v] (truthy v)):=by intro _;rfl):PT X e (tB t):=by
 intro pins s σ H Q I hw;refine isTrue_plain (thn (h pins s σ H _ I hw) fun v s1 ⟨x,H1,I1,r1,q1⟩=> ?_) (he _);obtain⟨d,rfl,q⟩:=q1;cases r1;exact BF ⟨H1,I1,q⟩
variable {tA tB':TT}{dT_:List Expr}
def sE_ (t u:TT):TT:=fun σ H Q=>t σ H fun c H1=>if c=true then u σ H1 Q else Q false H1
def tOr (t u:TT):TT:=fun σ H Q=>t σ H fun c H1=>if c=true then Q true H1 else u σ H1 Q
def sx_ (t:TT):TT:=fun σ H Q=>t σ H fun c H1=>Q (!c) H1
theorem ew_ (ha:PT X a tA):PW X (.BoolOp .And [a] pos) tA:=by
 intro wh pins s σ H Q I h;refine isTrue_and (thn (ha pins s σ H Q I h) fun c s1 e=> ?_);cases c with
 |true=>exact isTrue_and_nil e
 |false=>exact e
theorem kK_ (ha:PT X a tA):PW X (.BoolOp .Or [a] pos) tA:=by
 intro wh pins s σ H Q I h;refine isTrue_or (thn (ha pins s σ H Q I h) fun c s1 e=> ?_);cases c with
 |false=>exact isTrue_or_nil e
 |true=>exact e
theorem gQ_ (ha:PT X a tA) (hb:PW X (.BoolOp .And (b::dT_) pos) tB'):PW X (.BoolOp .And (a::b::dT_) pos) (sE_ tA tB'):=by
 intro wh pins s σ H Q I h;refine isTrue_and (thn (ha pins s σ H _ I h) fun c s1 ⟨H1,I1,q1⟩=> ?_);cases c with
 |true=>exact hb wh pins s1 σ H1 Q I1 q1
 |false=>exact⟨H1,I1,q1⟩
theorem kL_ (ha:PT X a tA) (hb:PW X (.BoolOp .Or (b::dT_) pos) tB'):PW X (.BoolOp .Or (a::b::dT_) pos) (tOr tA tB'):=by
 intro wh pins s σ H Q I h;refine isTrue_or (thn (ha pins s σ H _ I h) fun c s1 ⟨H1,I1,q1⟩=> ?_);cases c with
 |true=>exact⟨H1,I1,q1⟩
 |false=>exact hb wh pins s1 σ H1 Q I1 q1
theorem iK_ (ha:PT X a tA):PT X (.UnaryOp .Not a pos) (sx_ tA):=by
 intro pins s σ H Q I h;exact isTrue_not (ha pins s σ H (fun c H1=>Q (!c) H1) I h)
def rm_ (ta tb:TE):TE:=fun σ H Q=>ta σ H fun x H1=>∃c,x= .bl c/\if c=true then tb σ H1 Q else Q (.bl false) H1
def rf_ (ta:TE):TE:=fun σ H Q=>ta σ H fun x H1=>∃c,x= .bl c/\Q (.bl (!c)) H1
theorem iN_ {op}{t:TE} (h:PE X a t):PE X (.BoolOp op [a] pos) t:=fun pins s σ H Q I hw=>BoolOp_one (h pins s σ H Q I hw)
theorem iQ_ (ha:PE X a ta) (hb:PE X (.BoolOp .And (b::dT_) pos) tb):PE X (.BoolOp .And (a::b::dT_) pos) (rm_ ta tb):=by
 intro pins s σ H Q I h;refine BoolOp_and (thn (ha pins s σ H _ I h) fun v s1 ⟨x,H1,I1,r1,q1⟩=> ?_);obtain⟨c,rfl,q1⟩:=q1;cases r1;refine BF ?_;cases c with
 |true=>exact hb pins s1 σ H1 Q I1 q1
 |false=>exact⟨.bl false,H1,I1,rfl,q1⟩
theorem qg_ (ha:PE X a ta):PE X (.UnaryOp .Not a pos) (rf_ ta):=by
 intro pins s σ H Q I h;refine UnaryOp_ (thn (ha pins s σ H _ I h) fun v s1 ⟨x,H1,I1,r1,q1⟩=> ?_);obtain⟨c,rfl,q1⟩:=q1;cases r1;exact not_of (BF ⟨.bl (!c),H1,I1,rfl,q1⟩)
def tIf (t:TT) (ta tb:TE):TE:=fun σ H Q=>t σ H fun c H1=>if c=true then ta σ H1 Q else tb σ H1 Q
theorem iO_ {c:Expr} (hc:PT X c tA) (ha:PE X a ta) (hb:PE X b tb):PE X (.IfExp c a b pos) (tIf tA ta tb):=by
 intro pins s σ H Q I h;refine wpAny_IfExp (thn (hc pins s σ H _ I h) fun d s1 ⟨H1,I1,q1⟩=> ?_);cases d with
 |true=>exact ha pins s1 σ H1 Q I1 q1
 |false=>exact hb pins s1 σ H1 Q I1 q1
end
end L2
namespace L2
open PySem PySem.Spec PyProof.Rows
def SqL (K:W.Frag) (H:Hp) (a:Addr) (xs:List V):Prop:=
 Rd H a (.lst xs)\/
  ∃(o:Obj) (its:Array Value) (n:Nat),K.lookup a=some o/\o.cls= .type "list"/\o.dict=none/\o.data= .seq its n/\its.size<=sizeLine/\aV_ xs its.toList
def SqT (K:W.Frag) (H:Hp) (a:Addr) (xs:List V):Prop:=
 Rd H a (.tup xs)\/
  ∃(o:Obj) (its:Array Value) (n:Nat),K.lookup a=some o/\o.cls= .type "tuple"/\o.data= .seq its n/\its.size<=sizeLine/\aV_ xs its.toList
def s0_:Value->Option V
 | .none=>some .non
 | .bool b=>some (.bl b)
 | .int i _=>some (.int i)
 | .str x _=>some (.str x)
 | .bytes b _=>some (.byt b)
 | .float b _=>some (.flt b)
 | .ref a=>some (.ref a)
 | .type n=>some (.ty n)
 |_=>none
theorem be_.abs {x:V}{u:Value} (r:be_ x u):s0_ u=some x:=by
 cases x with
 |non=>cases r;rfl
 |bl _=>cases r;rfl
 |int _=>obtain⟨t,rfl⟩:=r;rfl
 |str _=>obtain⟨t,rfl⟩:=r;rfl
 |byt _=>obtain⟨t,rfl⟩:=r;rfl
 |flt _=>obtain⟨t,rfl⟩:=r;rfl
 |ref _=>cases r;rfl
 |ty _=>cases r;rfl
theorem be_.inj {x y:V}{u:Value} (r:be_ x u) (q:be_ y u):x=y:=Ap (r.abs.symm.trans q.abs)
theorem aV_.inj:∀{xs ys:List V}{us:List Value},aV_ xs us->aV_ ys us->xs=ys
 |_,_,_, .nil, .nil=>rfl
 |_,_,_, .cons r t, .cons r' t'=>by rw [r.inj r',aV_.inj t t']
section
variable {X:Cx}{pins:List (Addr×Obj)}{σ:St}{H:Hp}{s:Shared}{a:Addr}{xs ys:List V}
theorem SqL.of {K:W.Frag} (h:H a=some (.lst xs)):SqL K H a xs:= .inl (.inl h)
theorem SqT.of {K:W.Frag} (h:H a=some (.tup xs)):SqT K H a xs:= .inl (.inl h)
theorem Inv.list (I:Inv X pins σ H s) (h:SqL X.K H a xs):∃its:List Value,aV_ xs its/\PlainL s.heap a its.toArray/\xs.length<=sizeLine:=by
 rcases h with h|⟨o,its,n,hk,hc,hd,hs,hz,r⟩
 .obtain⟨z,its,n,r,e⟩:=h.ok I.hok;exact⟨its,r,⟨_,n,e,rfl,rfl,rfl⟩,z⟩
 .refine⟨its.toList,r,⟨o,n,I.kIn a o hk,hc,hd,by simpa using hs⟩, ?_⟩;have e:=r.length;simp only [Ay] at e;lia
theorem Inv.tuple (I:Inv X pins σ H s) (h:SqT X.K H a xs):∃its:List Value,aV_ xs its/\IsTup s.heap a its.toArray/\xs.length<=sizeLine:=by
 rcases h with h|⟨o,its,n,hk,hc,hs,hz,r⟩
 .obtain⟨z,its,r,p⟩:=h.ok I.hok;exact⟨its,r,p,z⟩
 .refine⟨its.toList,r,⟨o,I.kIn a o hk,hc,n,by simpa using hs⟩, ?_⟩;have e:=r.length;simp only [Ay] at e;lia
theorem Inv.list_inj (I:Inv X pins σ H s) (h:SqL X.K H a xs) (h':SqL X.K H a ys):xs=ys:=by
 obtain⟨its,r,⟨o,n,e,_,_,d⟩,_⟩:=I.list h;obtain⟨its',r',⟨o',n',e',_,_,d'⟩,_⟩:=I.list h';rw [e] at e';cases e';rw [d] at d';injection d' with d1 _;have:its=its':=by simpa using congrArg Array.toList d1
 subst this;exact r.inj r'
theorem Inv.tuple_inj (I:Inv X pins σ H s) (h:SqT X.K H a xs) (h':SqT X.K H a ys):xs=ys:=by
 obtain⟨its,r,⟨o,e,_,n,d⟩,_⟩:=I.tuple h;obtain⟨its',r',⟨o',e',_,n',d'⟩,_⟩:=I.tuple h';rw [e] at e';cases e';rw [d] at d';injection d' with d1 _;have:its=its':=by simpa using congrArg Array.toList d1
 subst this;exact r.inj r'
end
abbrev Cx.wish (X:Cx) (E:Value->Shared->Prop):Cx:={X with xe:=E}
abbrev Cx.nox (X:Cx):Cx:=X.wish fun _ _=>False
theorem Cx.Ok.wish {X:Cx} (ok:X.Ok) (E:Value->Shared->Prop):(X.wish E).Ok:=
 ⟨ok.mod,ok.kind,ok.glob,ok.blt,ok.above,ok.inj,ok.has,ok.cab,ok.hd,ok.frames,ok.stk,ok.exf,ok.bs,ok.bsz,ok.noex,ok.exfs,ok.funs,ok.frf⟩
theorem Cx.Ok.unwish {X:Cx}{E:Value->Shared->Prop} (ok:(X.wish E).Ok):X.Ok:=
 ⟨ok.mod,ok.kind,ok.glob,ok.blt,ok.above,ok.inj,ok.has,ok.cab,ok.hd,ok.frames,ok.stk,ok.exf,ok.bs,ok.bsz,ok.noex,ok.exfs,ok.funs,ok.frf⟩
section
variable {X:Cx}{pins:List (Addr×Obj)}{σ:St}{H:Hp}{s:Shared}{E:Value->Shared->Prop}
theorem Inv.wish (I:Inv X pins σ H s) (E:Value->Shared->Prop):Inv (X.wish E) pins σ H s:=⟨I.ok.wish E,I.os,I.bare,I.base,I.loc,I.cell,I.free,I.freeC,I.pin,I.hok,I.len⟩
theorem Inv.unwish (I:Inv (X.wish E) pins σ H s):Inv X pins σ H s:=⟨I.ok.unwish,I.os,I.bare,I.base,I.loc,I.cell,I.free,I.freeC,I.pin,I.hok,I.len⟩
theorem SP.unwish {D:Ends}{f:Flow}{s':Shared} (h:SP (X.wish E) pins D f s'):SP X pins D f s':=by
 cases f with
 |next=>obtain⟨σ',H',I,q⟩:=h;exact⟨σ',H',I.unwish,q⟩
 |brk=>obtain⟨σ',H',I,q⟩:=h;exact⟨σ',H',I.unwish,q⟩
 |cont=>obtain⟨σ',H',I,q⟩:=h;exact⟨σ',H',I.unwish,q⟩
 |ret u=>obtain⟨v,σ',H',I,r,q⟩:=h;exact⟨v,σ',H',I.unwish,r,q⟩
theorem PSs.nox {st:List Stmt}{t:TS} (h:PSs X.nox st t):PSs X st t:=fun pins s σ H D I hw=>
 BH (h pins s σ H D (I.wish _) hw) (fun _ _ q=>q.unwish) fun _ _ z=>False.elim z
end
section
variable {X:Cx}{st:Stmt}{dT_:List Stmt}{t u:TS}{e:Expr}{te:TE}{pos:Pos}
def rg_:TS:=fun D σ H=>D.nx σ H
def q5_ (t u:TS):TS:=fun D σ H=>t {D with nx:=u D} σ H
theorem aP_:PSs X [] rg_:=fun _ _ σ H _ I h=>D8 ⟨σ,H,I,h⟩
theorem af_ (h1:PS X st t) (h2:PSs X dT_ u):PSs X (st::dT_) (q5_ t u):=by
 intro pins s σ H D I h;refine wpAny_execs_cons (thn (h1 pins s σ H {D with nx:=u D} I h) fun f s1 q=> ?_);cases f with
 |next=>
  obtain⟨σ',H',I',q⟩:=q;exact h2 pins s1 σ' H' D I' q
 |ret v=>exact q
 |brk=>exact q
 |cont=>exact q
theorem ag_ (h1:PS X st t):PSs X [st] t:=by
 intro pins s σ H D I h;refine wpAny_execs_cons (thn (h1 pins s σ H D I h) fun f s1 q=> ?_);cases f with
 |next=>exact D8 q
 |ret v=>exact q
 |brk=>exact q
 |cont=>exact q
theorem Inv.quiet {pins:List (Addr×Obj)}{σ:St}{H:Hp}{s:Shared} (I:Inv X pins σ H s):interactive X.env=false:=by simp [interactive,I.ok.kind]
def ri_ (te:TE):TS:=fun D σ H=>te σ H fun _ H1=>D.nx σ H1
theorem bM_ (he:PE X e te) (hs:swapsWith e none pos.line X.env=pure false:=by rfl):PS X (.Expr e pos) (ri_ te):=by
 intro pins s σ H D I h;exact wpAny_Expr_any (thn (he pins s σ H _ I h) fun v s1 ⟨x,H1,I1,r1,q1⟩=>⟨σ,H1,I1,q1⟩) I.quiet hs
def sw_ (te:TE):TS:=fun D σ H=>te σ H D.rt
theorem ap_ (he:PE X e te):PS X (.Return (some e) pos) (sw_ te):=by
 intro pins s σ H D I h;exact wpAny_Return_some (thn (he pins s σ H _ I h) fun v s1 ⟨x,H1,I1,r1,q1⟩=>⟨x,σ,H1,I1,r1,q1⟩)
def sA_ (c:TT) (t u:TS):TS:=fun D σ H=>c σ H fun b H1=>if b=true then t D σ H1 else u D σ H1
theorem b5_ {c:Expr}{a b:List Stmt}{tc:TT} (hc:PT X c tc) (ha:PSs X a t) (hb:PSs X b u):PS X (.If c a b pos) (sA_ tc t u):=by
 intro pins s σ H D I h;refine wpAny_If (thn (hc pins s σ H _ I h) fun d s1 ⟨H1,I1,q1⟩=> ?_);cases d with
 |true=>exact ha pins s1 σ H1 D I1 q1
 |false=>exact hb pins s1 σ H1 D I1 q1
def pM_:TS:=fun _ _ _=>False
theorem mx_:PS X st pM_:=fun _ _ _ _ _ _ h=>h.elim
end
abbrev TG:=V->St->Hp->(St->Hp->Prop)->Prop
abbrev TGs:=List V->St->Hp->(St->Hp->Prop)->Prop
def PG (X:Cx) (target:Expr) (t:TG):Prop:=
 ∀(pins:List (Addr×Obj)) (s:Shared) (σ:St) (H:Hp) (v:V) (u:Value) (Q:St->Hp->Prop),Inv X pins σ H s->be_ v u->t v σ H Q->
  wpAny (model X.prog X.w) X.A (assign target X.env u) (fun _ s'=>∃σ' H',Inv X pins σ' H' s'/\Q σ' H') X.xe s
def PGs (X:Cx) (ts:List Expr) (t:TGs):Prop:=
 ∀(pins:List (Addr×Obj)) (s:Shared) (σ:St) (H:Hp) (vs:List V) (us:List Value) (Q:St->Hp->Prop),Inv X pins σ H s->aV_ vs us->t vs σ H Q->
  wpAny (model X.prog X.w) X.A (assignInOrder ((assignEach ts X.env).map (·.2)) us) (fun _ s'=>∃σ' H',Inv X pins σ' H' s'/\Q σ' H') X.xe s
abbrev q3_:=V->V->V->Hp->(Hp->Prop)->Prop
def r8_ (X:Cx) (t:q3_):Prop:=
 ∀(pins:List (Addr×Obj)) (s:Shared) (σ:St) (H:Hp) (o i v:V) (ov iv u:Value) (Q:Hp->Prop),Inv X pins σ H s->be_ o ov->be_ i iv->be_ v u->t o i v H Q->
  wpAny (model X.prog X.w) X.A (setItem ov iv u) (fun _ s'=>∃H',Inv X pins σ H' s'/\Q H') X.xe s
abbrev TIp:=V->V->Hp->VK->Prop
def PIp (X:Cx) (op:Operator) (t:TIp):Prop:=
 ∀(pins:List (Addr×Obj)) (s:Shared) (σ:St) (H:Hp) (x y:V) (v u:Value) (Q:VK),Inv X pins σ H s->be_ x v->be_ y u->t x y H Q->
  wpAny (model X.prog X.w) X.A (inplaceOp op v u) (EP X pins σ Q) X.xe s
section
variable {X:Cx}{pos:Pos}
def bS_ (i:Nat):TG:=fun v σ H Q=>Q (σ.set i (some v)) H
theorem al_ {i:Nat}{x:Str} (hN:X.N.Nodup) (hi:X.N[i]? =some x) (hx:Loc X.env.scope x) (hf:X.fn x=true\/X.env.scope.names.lookup x=some .local:=by first|exact .inl rfl|exact .inr rfl|assumption):PG X (.Name x pos) (bS_ i):=by
 intro pins s σ H v u Q I r h;exact wpAny_assign_Name (de_ I hN hi hx r (fun s' I'=>⟨_,H,I',h⟩) hf)
def o2_:TGs:=fun vs σ H Q=>vs=[]/\Q σ H
def cT_ (t:TG) (u:TGs):TGs:=fun vs σ H Q=>∃v r,vs=v::r/\t v σ H fun σ' H'=>u r σ' H' Q
theorem cu_:PGs X [] o2_:=by
 intro pins s σ H vs us Q I r h;obtain⟨e,h⟩:=h;subst e;cases r;exact assignInOrder_nil ⟨σ,H,I,h⟩
theorem aG_ {e:Expr}{es:List Expr}{t:TG}{u:TGs} (h1:PG X e t) (h2:PGs X es u)
  (hs:(assignEach (e::es) X.env).map (·.2)=assign e X.env::(assignEach es X.env).map (·.2):=by rfl):PGs X (e::es) (cT_ t u):=by
 intro pins s σ H vs us Q I r h;obtain⟨v,vr,e1,h⟩:=h;subst e1;cases r with
 |cons r rr=>
  rw [hs];refine assignInOrder_cons (thn (h1 pins s σ H _ _ _ I r h) fun _ s1 ⟨σ1,H1,I1,q1⟩=> ?_);exact h2 pins s1 σ1 H1 _ _ Q I1 rr q1
def nN_ (K:W.Frag) (n:Nat) (t:TGs):TG:=fun v σ H Q=>∃a xs,v= .ref a/\SqT K H a xs/\xs.length=n/\t xs σ H Q
theorem dV_ {es:List Expr}{k:Nat}{t:TGs}{n:Nat} (hc:X.calm=true) (h:PGs X es t)
  (hn:(assignEach es X.env).length=n:=by rfl) (hst:(assignEach es X.env).findIdx? (·.1)=none:=by rfl):PG X (.Tuple es k pos) (nN_ X.K n t):=by
 intro pins s σ H v u Q I r hw;obtain⟨a,xs,e1,hq,hl,hw⟩:=hw;subst e1;cases r;obtain⟨its,rv,ht,hz⟩:=I.tuple hq;refine assign_Tuple_tuple (I.ok.hd hc) ht (by simp [hn,<-hl,rv.length]) hst fun h' hx=> ?_;have I1:Inv X pins σ H {s with heap:=h'}:=I.kept (t':=s.toks) fun b o e=>hx b o (AI (AF e)) e;exact h pins _ σ H xs _ Q I1 (by simpa using rv) hw
def sX_ (to ti:TE) (t:q3_):TG:=fun v σ H Q=>to σ H fun o H1=>ti σ H1 fun i H2=>t o i v H2 fun H3=>Q σ H3
theorem nv_ {o i:Expr}{to ti:TE}{t:q3_} (ho:PE X o to) (hi:PE X i ti) (hs:r8_ X t)
  (ha:∀v,assign (.Subscript o i pos) X.env v=(do
   let ov<-holding [v] (eval o X.env)
   let iv<-holding [v,ov] (eval i X.env)
   standAt pos
   holding [v,ov,iv] (setItem ov iv v)
   release [v,ov,iv] []):=by intro _;rfl):PG X (.Subscript o i pos) (sX_ to ti t):=by
 intro pins s σ H v u Q I r h;rw [ha];refine A0 (An (thn (ho pins s σ H _ I h) fun ov s1 ⟨x,H1,I1,r1,q1⟩=> ?_));refine A0 (An (thn (hi pins s1 σ H1 _ I1 q1) fun iv s2 ⟨y,H2,I2,r2,q2⟩=> ?_));refine A0 (wpAny_standAt (A0 (An (thn (hs pins s2 σ H2 x y v ov iv u _ I2 r1 r2 r q2) fun _ s3 ⟨H3,I3,q3⟩=> ?_))));exact wpAny_release ⟨σ,H3,I3,q3⟩
def pR_ (te:TE) (g:TG):TS:=fun D σ H=>te σ H fun x H1=>g x σ H1 D.nx
theorem nu_ {tg e:Expr}{te:TE}{g:TG} (he:PE X e te) (hg:PG X tg g) (hs:swapsWithSole [tg] e pos.line X.env=pure false:=by rfl) (hw:swappedStores [tg] e X.env=pure none:=by rfl)
  (h1:(assignEach [tg] X.env).map (·.2)=[assign tg X.env]:=by rfl):PS X (.Assign [tg] e pos) (pR_ te g):=by
 intro pins s σ H D I h;refine wpAny_Assign_stores (thn (he pins s σ H _ I h) fun v s1 ⟨x,H1,I1,r1,q1⟩=> ?_) hs hw;rw [h1];exact thn (hg pins s1 σ H1 x v _ I1 r1 q1) fun _ s2 q=>q
theorem as_ {i:Nat}{x:Str}{e:Expr}{te:TE}{pos':Pos} (hN:X.N.Nodup) (hi:X.N[i]? =some x) (hx:Loc X.env.scope x) (he:PE X e te) (hs:swapsWith e (some (.Name x pos')) pos.line X.env=pure false:=by rfl) (hf:X.fn x=true\/X.env.scope.names.lookup x=some .local:=by first|exact .inl rfl|exact .inr rfl|assumption):
  PS X (.Assign [.Name x pos'] e pos) (pR_ te (bS_ i)):=by
 intro pins s σ H D I h;refine wpAny_Assign_Name (thn (he pins s σ H _ I h) fun v s1 ⟨y,H1,I1,r1,q1⟩=> ?_) hs;exact de_ I1 hN hi hx r1 (fun s2 I2=>⟨_,H1,I2,q1⟩) hf
def sD_ (i:Nat) (te:TE) (ti:TIp):TS:=fun D σ H=>∃x,σ[i]? =some (some x)/\te σ H fun y H1=>ti x y H1 fun z H2=>D.nx (σ.set i (some z)) H2
theorem iL_ {i:Nat}{x:Str}{e:Expr}{te:TE}{op:Operator}{ti:TIp}{pos':Pos} (hN:X.N.Nodup) (hi:X.N[i]? =some x) (hx:Loc X.env.scope x) (he:PE X e te) (ho:PIp X op ti) (hf:X.fn x=true\/X.env.scope.names.lookup x=some .local:=by first|exact .inl rfl|exact .inr rfl|assumption):
  PS X (.AugAssign (.Name x pos') op e pos) (sD_ i te ti):=by
 intro pins s σ H D I h;obtain⟨v,e1,h⟩:=h;obtain⟨m,hn,hl⟩:=I.loc;have vis:Vis X.env.scope x:=by rcases hx with k|k;exact .inl k;exact .inr (.inl k)
 obtain⟨u,r,l⟩:=hl i x v hi e1 vis;refine wpAny_AugAssign_Name ?_;have go:wpAny (model X.prog X.w) X.A (eval e X.env) (fun w s₂=>wpAny (model X.prog X.w) X.A (inplaceOp op u w) (fun r s₃=>wpAny (model X.prog X.w) X.A (storeName X.env x r) (fun _=>SP X pins D .next) X.xe s₃) X.xe s₂) X.xe s:=by
  refine thn (he pins s σ H _ I h) fun w s1 ⟨y,H1,I1,r1,q1⟩=> ?_;refine thn (ho pins s1 σ H1 v y u w _ I1 r r1 q1) fun z s2 ⟨zv,H2,I2,r2,q2⟩=> ?_;exact de_ I2 hN hi hx r2 (fun s3 I3=>⟨_,H2,I3,q2⟩) hf
 rcases l with⟨hk,hm⟩|⟨hk,c,hc,hcell⟩
 .exact wpAny_loadName_local I.ok.kind hk hn hm go
 .rcases hk with hk|hk
  .exact wpAny_loadName_cell I.ok.kind hk hc hcell go
  .rcases hx with k|k
   .have:X.env.scope.names.lookup x=some .free:=hk;rw [k] at this;cases this
   .have:X.env.scope.names.lookup x=some .free:=hk;rw [k] at this;cases this
def rl_ (to ti te:TE) (tget:V->V->Hp->VK->Prop) (tip:TIp) (tset:q3_):TS:=fun D σ H=>to σ H fun o H1=>ti σ H1 fun i H2=>tget o i H2 fun x H3=>te σ H3 fun y H4=>tip x y H4 fun z H5=>tset o i z H5 fun H6=>D.nx σ H6
def sp_ (X:Cx) (t:V->V->Hp->VK->Prop):Prop:=
 ∀(pins:List (Addr×Obj)) (s:Shared) (σ:St) (H:Hp) (o i:V) (ov iv:Value) (Q:VK),Inv X pins σ H s->be_ o ov->be_ i iv->t o i H Q->
  wpAny (model X.prog X.w) X.A (getItem ov iv) (EP X pins σ Q) X.xe s
theorem kN_ {o i e:Expr}{to ti te:TE}{tget:V->V->Hp->VK->Prop}{tip:TIp}{tset:q3_}{op:Operator}{tpos:Pos} (ho:PE X o to) (hi:PE X i ti) (hg:sp_ X tget) (he:PE X e te) (hp:PIp X op tip) (hs:r8_ X tset)
  (ha:∀ov iv new,augStore i ov iv new=(do holding [new,ov,iv] (setItem ov iv new);release [new,ov,iv] [];pure .next):=by intros;rfl):PS X (.AugAssign (.Subscript o i tpos) op e pos) (rl_ to ti te tget tip tset):=by
 intro pins s σ H D I h;refine wpAny_AugAssign_SubscriptAny (thn (ho pins s σ H _ I h) fun ov s1 ⟨x1,H1,I1,r1,q1⟩=> ?_) ha;refine thn (hi pins s1 σ H1 _ I1 q1) fun iv s2 ⟨x2,H2,I2,r2,q2⟩=> ?_;refine thn (hg pins s2 σ H2 x1 x2 ov iv _ I2 r1 r2 q2) fun old s3 ⟨x3,H3,I3,r3,q3⟩=> ?_;refine thn (he pins s3 σ H3 _ I3 q3) fun v s4 ⟨x4,H4,I4,r4,q4⟩=> ?_;refine thn (hp pins s4 σ H4 x3 x4 old v _ I4 r3 r4 q4) fun new s5 ⟨x5,H5,I5,r5,q5⟩=> ?_;exact thn (hs pins s5 σ H5 x1 x2 x5 ov iv new _ I5 r1 r2 r5 q5) fun _ s6 ⟨H6,I6,q6⟩=>⟨σ,H6,I6,q6⟩
def ipI (f:Int->Int->Int):TIp:=fun x y H Q=>∃i j,x= .int i/\y= .int j/\Q (.int (f i j)) H
theorem jk_:PIp X .Add (ipI fun i j=>i+j):=by
 intro pins s σ H x y v u Q I r1 r2 h;obtain⟨i,j,e1,e2,q⟩:=h;subst e1;subst e2;obtain⟨t,rfl⟩:=r1;obtain⟨t',rfl⟩:=r2;exact iadd_int ⟨.int _,H,I.tok _,⟨_,rfl⟩,q⟩
theorem qG_:PIp X .Sub (ipI fun i j=>i-j):=by
 intro pins s σ H x y v u Q I r1 r2 h;obtain⟨i,j,e1,e2,q⟩:=h;subst e1;subst e2;obtain⟨t,rfl⟩:=r1;obtain⟨t',rfl⟩:=r2;exact isub_int ⟨.int _,H,I.tok _,⟨_,rfl⟩,q⟩
end
section
variable {X:Cx}{pos:Pos}
def kn_ (c:TT) (tb:TS):TS:=fun D σ H=>∃Wq:Nat->St->Hp->Prop,(∃m,Wq m σ H)/\∀m σ H,Wq m σ H->
 c σ H fun b H1=>if b=true then∃N:St->Hp->Prop,(∀σ' H',N σ' H'->∃m',m'<m/\Wq m' σ' H')/\tb {D with nx:=N,ct:=N,bk:=D.nx} σ H1 else D.nx σ H1
theorem ea_ {c:Expr}{body:List Stmt}{tc:TT}{tb:TS} (hp:PassesOwn (model X.prog X.w) X.A X.env X.xe) (hc:PT X c tc) (hb:PSs X body tb):PS X (.While c body [] pos) (kn_ tc tb):=by
 intro pins s σ H D I h;obtain⟨Wq,⟨m0,w0⟩,turn⟩:=h;refine wpAny_While (codeAny_whileLoop (fun n s'=>∃σ' H',Inv X pins σ' H' s'/\Wq n σ' H') ?_ m0 ⟨σ,H,I,w0⟩);rintro n s1 ⟨σ1,H1,I1,w1⟩;refine C9 hp (thn (hc pins s1 σ1 H1 _ I1 (turn n σ1 H1 w1)) fun b s2 ⟨H2,I2,q2⟩=> ?_);cases b with
 |true=>
  obtain⟨N,hN,q2⟩:=q2;rw [A9 rfl];refine C9 hp (thn (hb pins s2 σ1 H2 _ I2 q2) fun f s3 q3=> ?_);cases f with
  |next=>
   obtain⟨σ3,H3,I3,n3⟩:=q3;obtain⟨m',hm,w3⟩:=hN σ3 H3 n3;exact⟨m',hm,σ3,H3,I3,w3⟩
  |cont=>
   obtain⟨σ3,H3,I3,n3⟩:=q3;obtain⟨m',hm,w3⟩:=hN σ3 H3 n3;exact⟨m',hm,σ3,H3,I3,w3⟩
  |brk=>exact q3
  |ret v=>exact q3
 |false=>
  rw [A7 AQ];exact D8 ⟨σ1,H2,I2,q2⟩
end
structure It where
 go:Nat->Hp->Prop
 yld:Nat->Hp->V->Hp->Prop
 stop:Nat->Hp->Prop
def iy_ (X:Cx) (pins:List (Addr×Obj)) (H:Hp) (b:Addr):Prop:=
 H b=none/\b≠X.env.locals/\b∉X.fs/\(b∈X.ex\/X.s₀.heap.objs.size<=b)/\(∀x c,X.env.cells.lookup x=some c->c≠b)/\∀p∈X.pn++pins,p.1≠b
theorem Inv.fpOk {X:Cx}{pins:List (Addr×Obj)}{σ:St}{H H':Hp}{s:Shared}{b:Addr} (I:Inv X pins σ H s) (hb:s.heap.objs.size<=b) (hn:H' b=none):iy_ X pins H' b:=by
 refine⟨hn,C0 (AY I.lt hb),I.nofs hb, .inr (Ai I.sz hb),fun x c e z=> ?_,fun p hp z=> ?_⟩
 .obtain⟨v,q⟩:=I.cell x c e;exact absurd (AY q.lt (by rw [z];exact hb)) (Bm _)
 .exact absurd (AY (AF (I.pin p hp).1) (by rw [z];exact hb)) (Bm _)
structure Turn (P:Program) (w:World) (K:W.Frag) (tg:Expr) (J:It) (fp:List Addr) (it:Addr) (tn:Nat->Heap->Prop):Prop where
 mem:it∈fp
 obj:∀i h,tn i h->∀b∈fp,∃o,h.get? b=some o/\∀v,o.data≠ .cell v
 keep:∀i h h',tn i h->(∀b∈fp,∀o,h.get? b=some o->h'.get? b=some o)->tn i h'
 item:∀(X:Cx),X.prog=P->X.w=w->X.K=K->X.calm=true->∀(i:Nat) (pins:List (Addr×Obj)) (s:Shared) (σ:St) (H:Hp) (E:Value->Shared->Prop),Inv X pins σ H s->(∀b∈fp,iy_ X pins H b)->tn i s.heap->J.go i H->
  wpAny (model P w) X.A (pyNext (.ref it)) (fun r s1=>∃u,r=some u/\
   wpAny (model P w) X.A (letOwnedTupleGo tg (.ref it) u) (fun _ s2=>∃x H',Inv X pins σ H' s2/\be_ x u/\J.yld i H x H'/\tn (i+1) s2.heap/\∀b∈fp,H' b=none) E s1) E s
 done:∀(X:Cx),X.prog=P->X.w=w->X.K=K->X.calm=true->∀(i:Nat) (pins:List (Addr×Obj)) (s:Shared) (σ:St) (H:Hp) (E:Value->Shared->Prop),Inv X pins σ H s->(∀b∈fp,iy_ X pins H b)->tn i s.heap->J.stop i H->
  wpAny (model P w) X.A (pyNext (.ref it)) (fun r s1=>r=none/\Inv X pins σ H s1) E s
 self:∀(A:Around) (i:Nat) (s:Shared) (Q:Value->Shared->Prop) (E:Value->Shared->Prop),tn i s.heap->Q (.ref it) s->wpAny (model P w) A (pyIter (.ref it)) Q E s
abbrev TI:=St->Hp->(It->Hp->Prop)->Prop
def PIE (X:Cx) (pins:List (Addr×Obj)) (σ:St) (tg:Expr) (R:It->Hp->Prop) (itv:Value) (s2:Shared):Prop:=
 ∃(it:Addr) (fp:List Addr) (tn:Nat->Heap->Prop) (J:It) (H':Hp),itv= .ref it/\Inv X pins σ H' s2/\Turn X.prog X.w X.K tg J fp it tn/\tn 0 s2.heap/\(∀b∈fp,iy_ X pins H' b)/\R J H'
def PI (X:Cx) (tg iter:Expr) (wi:TI):Prop:=
 ∀(pins:List (Addr×Obj)) (s:Shared) (σ:St) (H:Hp) (R:It->Hp->Prop),Inv X pins σ H s->wi σ H R->
  wpAny (model X.prog X.w) X.A (eval iter X.env) (fun v s1=>wpAny (model X.prog X.w) X.A (pyIter v) (PIE X pins σ tg R) X.xe s1) X.xe s
theorem go_of {M : Model} {A : Around} {E : Value -> Shared -> Prop} {s : Shared} {tg : Expr} {it : Addr} {u : Value} {o : Obj} {n : String} {vs : Array Value} {Q : Unit -> Shared -> Prop} (ho : s.heap.get? it = some o) (hc : o.cls = .type n) (hd : o.data = .fields vs)
    (hn : ["enumerate", "zip", "dict_itemiterator", "dict_reverseitemiterator", "odict_iterator", "itertools.zip_longest", "itertools.pairwise"].contains n = false) (hQ : Q () s) : wpAny M A (letOwnedTupleGo tg (.ref it) u) Q E s := by
  unfold letOwnedTupleGo;cases tg <;> first
    | exact A3 hQ
    | (cases u <;> first
        | exact A3 hQ
        | (refine A0 (wpAny_load ho ?_)
           rw [hc, hd];show wpAny M A (if (["enumerate", "zip", "dict_itemiterator", "dict_reverseitemiterator", "odict_iterator", "itertools.zip_longest", "itertools.pairwise"].contains n && vs[0]? == some (rawInt _)) = true then _ else _) Q E s;rw [A7 (by intro h; rw [hn, Bool.false_and] at h; cases h)];exact A3 hQ))
def Itl (K:W.Frag) (a:Addr):It:=
 ⟨fun i H=>∃xs x,SqL K H a xs/\xs[i]? =some x,fun i H x H'=>H'=H/\∀xs,SqL K H a xs->xs[i]? =some x,fun i H=>∃xs,SqL K H a xs/\xs.length<=i⟩
def Itt (K:W.Frag) (a:Addr):It:=
 ⟨fun i H=>∃xs x,SqT K H a xs/\xs[i]? =some x,fun i H x H'=>H'=H/\∀xs,SqT K H a xs->xs[i]? =some x,fun i H=>∃xs,SqT K H a xs/\xs.length<=i⟩
def Itr (lo:Int) (n:Nat):It:=⟨fun i _=>i<n,fun i H x H'=>H'=H/\x= .int (lo+i),fun i _=>n<=i⟩
theorem kh_ {P:Program}{w:World}{K:W.Frag}{tg:Expr} (a it:Addr):Turn P w K tg (Itl K a) [it] it (fun i h=>h.IsListIter it a i) where
 mem:=by simp
 obj:=fun i h st b hb=>by
  have e:b=it:=by simpa using hb
  subst e;obtain⟨o,e,c,d⟩:=st;exact⟨o,e,fun v z=>by rw [d] at z;cases z⟩
 keep:=fun i h h' st k=>st.at fun o e=>k it (by simp) o e
 item:=by
  intro X hP hw hK hc i pins s σ H E I hf st hg;subst hP hw hK;obtain⟨xs,x,hq,hx⟩:=hg;obtain⟨its,rv,p,hz⟩:=I.list hq;obtain⟨u,hu,ru⟩:=rv.get hx;obtain⟨f0,f1,f2,f3,f4,f5⟩:=hf it (by simp);refine wpAny_pyNext_list_item st p.isList (x:=u) (by simpa using hu) fun h' st' sb=> ?_;have I1:Inv X pins σ H {s with heap:=h'}:=I.turned (t':=s.toks) (fun b o hb e=>(sb.2 b hb).trans e) f0 f1 f3 f4 f5;obtain⟨o,e,c,d⟩:=id st';exact⟨u,rfl,go_of (s:={s with heap:=h'}) e c d (by decide) ⟨x,H,I1,ru,⟨rfl,fun ys hy=>by rw [I.list_inj hy hq];exact hx⟩,st',fun b hb=>(hf b hb).1⟩⟩
 done:=by
  intro X hP hw hK hc i pins s σ H E I hf st hg;subst hP hw hK;obtain⟨xs,hq,hx⟩:=hg;obtain⟨its,rv,p,hz⟩:=I.list hq;obtain⟨f0,f1,f2,f3,f4,f5⟩:=hf it (by simp);have hl:=rv.length;exact wpAny_pyNext_list_end (I.ok.hd hc) st p.isList (by simp;lia) fun h' eb=>⟨rfl,I.turned (t':=s.toks) (fun b o hb e=>eb b o hb e) f0 f1 f3 f4 f5⟩
 self:=fun _ _ _ _ _ st h=>wpAny_pyIter_listiter st h
theorem jC_ {P:Program}{w:World}{K:W.Frag}{tg:Expr} (a it:Addr):Turn P w K tg (Itt K a) [it] it (fun i h=>h.IsTupleIter it a i) where
 mem:=by simp
 obj:=fun i h st b hb=>by
  have e:b=it:=by simpa using hb
  subst e;obtain⟨o,e,c,d⟩:=st;exact⟨o,e,fun v z=>by rw [d] at z;cases z⟩
 keep:=fun i h h' st k=>st.at fun o e=>k it (by simp) o e
 item:=by
  intro X hP hw hK hc i pins s σ H E I hf st hg;subst hP hw hK;obtain⟨xs,x,hq,hx⟩:=hg;obtain⟨its,rv,p,hz⟩:=I.tuple hq;obtain⟨u,hu,ru⟩:=rv.get hx;obtain⟨f0,f1,f2,f3,f4,f5⟩:=hf it (by simp);refine wpAny_pyNext_tuple_item st (show s.heap.IsTuple a its.toArray from p) (x:=u) (by simpa using hu) fun h' st' sb=> ?_;have I1:Inv X pins σ H {s with heap:=h'}:=I.turned (t':=s.toks) (fun b o hb e=>(sb.2 b hb).trans e) f0 f1 f3 f4 f5;obtain⟨o,e,c,d⟩:=id st';exact⟨u,rfl,go_of (s:={s with heap:=h'}) e c d (by decide) ⟨x,H,I1,ru,⟨rfl,fun ys hy=>by rw [I.tuple_inj hy hq];exact hx⟩,st',fun b hb=>(hf b hb).1⟩⟩
 done:=by
  intro X hP hw hK hc i pins s σ H E I hf st hg;subst hP hw hK;obtain⟨xs,hq,hx⟩:=hg;obtain⟨its,rv,p,hz⟩:=I.tuple hq;obtain⟨f0,f1,f2,f3,f4,f5⟩:=hf it (by simp);have hl:=rv.length;exact wpAny_pyNext_tuple_end (I.ok.hd hc) st (show s.heap.IsTuple a its.toArray from p) (by simp;lia) fun h' eb=>⟨rfl,I.turned (t':=s.toks) (fun b o hb e=>eb b o hb e) f0 f1 f3 f4 f5⟩
 self:=fun _ _ _ _ _ st h=>wpAny_pyIter_tupleiter st h
theorem jD_ {P:Program}{w:World}{K:W.Frag}{tg:Expr} (it:Addr) (lo:Int) (n:Nat):Turn P w K tg (Itr lo n) [it] it (fun i h=>IsRangeIter h it (lo+(i:Nat)*1) ((n:Int)-(i:Nat)) 1) where
 mem:=by simp
 obj:=fun i h st b hb=>by
  have e:b=it:=by simpa using hb
  subst e;exact⟨_,st,fun v z=>by
   have z':Data.fields _=Data.cell v:=z;cases z'⟩
 keep:=fun i h h' st k=>k it (by simp) _ st
 item:=by
  intro X hP hw hK hc i pins s σ H E I hf st hg;subst hP hw hK;obtain⟨f0,f1,f2,f3,f4,f5⟩:=hf it (by simp);have Wq:=Walks.range (prog:=X.prog) (w:=X.w) (I.ok.hd hc) it lo 1 n;refine Wq.item i s _ _ hg st fun v h' tk hv st' kk=> ?_;obtain⟨t,rfl⟩:=hv;have I1:Inv X pins σ H {s with heap:=h',toks:=tk}:=I.turned (fun b o hb e=>kk b o (by simpa using hb) e) f0 f1 f3 f4 f5;refine⟨_,rfl,go_of (s:={s with heap:=h',toks:=tk}) (n:="range_iterator") st' rfl rfl (by decide) ⟨.int (lo+i),H,I1,⟨t, ?_⟩,⟨rfl,rfl⟩,st',fun b hb=>(hf b hb).1⟩⟩;rw [Int.mul_one]
 done:=by
  intro X hP hw hK hc i pins s σ H E I hf st hg;subst hP hw hK;obtain⟨f0,f1,f2,f3,f4,f5⟩:=hf it (by simp);exact wpAny_pyNext_range_end (I.ok.hd hc) st (by have:n<=i:=hg;lia) fun h' eb=>⟨rfl,I.turned (t':=s.toks) (fun b o hb e=>eb b o hb e) f0 f1 f3 f4 f5⟩
 self:=fun _ _ _ _ _ st h=>wpAny_pyIter_rangeiter st h
end L2
namespace L2
open PySem PySem.Spec PyProof.Rows
section
variable {X:Cx}{tg:Expr}
def rY_ (K:W.Frag) (tl:TE):TI:=fun σ H R=>tl σ H fun x H1=>∃a,x= .ref a/\(∃xs,SqL K H1 a xs)/\R (Itl K a) H1
def sV_ (K:W.Frag) (tl:TE):TI:=fun σ H R=>tl σ H fun x H1=>∃a,x= .ref a/\(∃xs,SqT K H1 a xs)/\R (Itt K a) H1
theorem a9_ {l:Expr}{tl:TE} (hl:PE X l tl):PI X tg l (rY_ X.K tl):=by
 intro pins s σ H R I h;refine thn (hl pins s σ H _ I h) fun v s1 ⟨x,H1,I1,r1,q1⟩=> ?_;obtain⟨a,e,⟨xs,hq⟩,q⟩:=q1;subst e;cases r1;obtain⟨its,rv,p,hz⟩:=I1.list hq;refine wpAny_pyIter_list p.isList ?_;refine⟨s1.heap.objs.size,[s1.heap.objs.size],_,_,H1,rfl,I1.kept (t':=s1.toks) fun b o e=>AB _ e,kh_ a _,⟨_,AH _ rfl,rfl,rfl⟩,fun b hb=> ?_,q⟩;have e:b=s1.heap.objs.size:=by simpa using hb
 subst e;exact I1.fpOk (A5 _) (I1.hok.fresh (A5 _))
theorem qc_ {l:Expr}{tl:TE} (hl:PE X l tl):PI X tg l (sV_ X.K tl):=by
 intro pins s σ H R I h;refine thn (hl pins s σ H _ I h) fun v s1 ⟨x,H1,I1,r1,q1⟩=> ?_;obtain⟨a,e,⟨xs,hq⟩,q⟩:=q1;subst e;cases r1;obtain⟨its,rv,p,hz⟩:=I1.tuple hq;refine wpAny_pyIter_tuple (show s1.heap.IsTuple a its.toArray from p) ?_;refine⟨s1.heap.objs.size,[s1.heap.objs.size],_,_,H1,rfl,I1.kept (t':=s1.toks) fun b o e=>AB _ e,jC_ a _,⟨_,AH _ rfl,rfl,rfl⟩,fun b hb=> ?_,q⟩;have e:b=s1.heap.objs.size:=by simpa using hb
 subst e;exact I1.fpOk (A5 _) (I1.hok.fresh (A5 _))
theorem iI_ {pins:List (Addr×Obj)}{σ:St}{H:Hp}{s:Shared}{R:It->Hp->Prop}{E:Value->Shared->Prop}{lo hi:Int}{t u v:Tok}{tk:Nat} (I:Inv X pins σ H s) (h1: -(2^62)<=lo) (h2:lo<2^62) (h3: -(2^62)<=hi) (h4:hi<2^62)
  (q:R (Itr lo (hi-lo).toNat) H):wpAny (model X.prog X.w) X.A (pyIter (.ref s.heap.objs.size)) (PIE X pins σ tg R) E {s with heap:=s.heap.push {cls:= .type "range",data:= .fields #[.int lo t, .int hi u, .int 1 v]},toks:=tk}:=by
 refine wpAny_pyIter_range (IsRange.new ..) (small_one h1 h2 h3 h4) ?_;have I1:Inv X pins σ H {s with heap:=s.heap.push {cls:= .type "range",data:= .fields #[.int lo t, .int hi u, .int 1 v]},toks:=tk}:=I.kept fun b o e=>AB _ e;refine⟨(s.heap.push {cls:= .type "range",data:= .fields #[.int lo t, .int hi u, .int 1 v]}).objs.size,[(s.heap.push {cls:= .type "range",data:= .fields #[.int lo t, .int hi u, .int 1 v]}).objs.size],_,_,H,rfl,
  I1.kept (t':=tk) fun b o e=>AB _ e,jD_ _ lo (hi-lo).toNat, ?_,fun b hb=> ?_,q⟩
 .have e1:lo+((0:Nat):Int)*1=lo:=by simp
  have e2:(((hi-lo).toNat:Nat):Int)-((0:Nat):Int)=Builtin.Range.rangeSize lo hi 1:=by rw [rangeSize_one];split<;>lia
  show IsRangeIter _ _ (lo+((0:Nat):Int)*1) ((((hi-lo).toNat:Nat):Int)-((0:Nat):Int)) 1;rw [e1,e2];exact AH _ rfl
 .have e:b=(s.heap.push {cls:= .type "range",data:= .fields #[.int lo t, .int hi u, .int 1 v]}).objs.size:=by simpa using hb
  subst e;exact I1.fpOk (A5 _) (I1.hok.fresh (A5 _))
def rX_ (ta:TA):TI:=fun σ H R=>ta σ H fun vs H1=>∃j:Int,vs=[.int j]/\-(2^62)<=j/\j<2^62/\R (Itr 0 j.toNat) H1
def rW_ (ta:TA):TI:=fun σ H R=>ta σ H fun vs H1=>∃i j:Int,vs=[.int i, .int j]/\(-(2^62)<=i/\i<2^62/\-(2^62)<=j/\j<2^62)/\R (Itr i (j-i).toNat) H1
theorem dj_ {a:Expr}{ta:TA}{p pos:Pos} (hg:Gl X "range") (hm:X.mg "range"=none) (ha:PA X [a] ta) (hs:starEach [a] X.env=[(false,eval a X.env)]:=by rfl):PI X tg (.Call (.Name "range" p) [a] [] pos) (rX_ ta):=by
 intro pins s σ H R I h;refine Call_ (cI_ I hg hm boot_range (BG (thn (ha pos pins s σ H _ I h) fun us s1 ⟨vs,H1,I1,r1,q1⟩=> ?_) hs rfl));obtain⟨j,e,q1,q2,q⟩:=q1;subst e;cases r1 with
 |cons r rr=>
  cases rr;obtain⟨t,rfl⟩:=r;exact call_range_1 (iI_ I1 (by lia) (by lia) q1 q2 (by simpa using q))
theorem bQ_ {a b:Expr}{ta:TA}{p pos:Pos} (hg:Gl X "range") (hm:X.mg "range"=none) (ha:PA X [a,b] ta) (hs:starEach [a,b] X.env=[(false,eval a X.env),(false,eval b X.env)]:=by rfl) (hs2:starEach [b] X.env=[(false,eval b X.env)]:=by rfl):
  PI X tg (.Call (.Name "range" p) [a,b] [] pos) (rW_ ta):=by
 intro pins s σ H R I h;refine Call_ (cI_ I hg hm boot_range (BG (thn (ha pos pins s σ H _ I h) fun us s1 ⟨vs,H1,I1,r1,q1⟩=> ?_) (by rw [hs,hs2]) (by rw [hs2];rfl)));obtain⟨i,j,e,⟨q1,q2,q3,q4⟩,q⟩:=q1;subst e;cases r1 with
 |cons r rr=>
  cases rr with
  |cons r' rr=>
   cases rr;obtain⟨t,rfl⟩:=r;obtain⟨t',rfl⟩:=r';exact call_range_2 (iI_ I1 q1 q2 q3 q4 q)
def sB_ (wi:TI) (g:TG) (tb:TS):TS:=fun D σ H=>wi σ H fun J H1=>∃Wq:Nat->Nat->St->Hp->Prop,(∃m,Wq 0 m σ H1)/\∀i m σ H,Wq i m σ H->
 (J.stop i H/\D.nx σ H)\/(J.go i H/\∃N:St->Hp->Prop,(∀σ' H',N σ' H'->∃m',m'<m/\Wq (i+1) m' σ' H')/\∀x H',J.yld i H x H'->g x σ H' fun σ2 H2=>tb {D with nx:=N,ct:=N,bk:=D.nx} σ2 H2)
def gS_ (fp:List Addr) (h:Heap):List (Addr×Obj):=fp.filterMap fun b=>(h.get? b).map fun o=>(b,o)
theorem cQ_ {fp:List Addr}{h:Heap}{b:Addr}{o:Obj} (hb:b∈fp) (e:h.get? b=some o):(b,o)∈gS_ fp h:=D3.mpr ⟨b,hb,by rw [e];rfl⟩
theorem k7_ {fp:List Addr}{h:Heap}{p:Addr×Obj} (hp:p∈gS_ fp h):p.1∈fp/\h.get? p.1=some p.2:=by
 obtain⟨b,hb,e⟩:=D3.mp hp;cases q:h.get? b with
 |none=>rw [q] at e;cases e
 |some o=>
  rw [q] at e;have e':(b,o)=p:=Ap e;subst e';exact⟨hb,q⟩
theorem Inv.pinned {pins:List (Addr×Obj)}{σ:St}{H:Hp}{s:Shared}{fp:List Addr} (I:Inv X pins σ H s) (hf:∀b∈fp,iy_ X pins H b) (ho:∀b∈fp,∃o,s.heap.get? b=some o/\∀v,o.data≠ .cell v):Inv X (pins++gS_ fp s.heap) σ H s:=
 I.pins_of fun p hp=>(Cs.mp hp).elim (fun z=>I.pin p (Al _ z)) fun z=>by
  obtain⟨hb,e⟩:=k7_ z;obtain⟨f0,f1,f2,_⟩:=hf p.1 hb;obtain⟨o,e',d⟩:=ho p.1 hb;rw [e] at e';cases e';exact⟨e,f0,f1,f2,d⟩
theorem Inv.unpinned {pins pl:List (Addr×Obj)}{σ:St}{H:Hp}{s:Shared} (I:Inv X (pins++pl) σ H s):Inv X pins σ H s:=I.pins_of fun p hp=>I.pin p (Al _ (List.mem_append_left _ hp))
theorem bd_ {iter:Expr}{body:List Stmt}{wi:TI}{g:TG}{tb:TS}{pos:Pos} (hp:PassesOwn (model X.prog X.w) X.A X.env X.xe) (hc:X.calm=true) (hi:PI X tg iter wi) (hg:PG X tg g) (hb:PSs X body tb)
  (hs:∀x,foldedSetIterable iter X.env x=pure x:=by intro _;rfl):PS X (.For tg iter body [] pos) (sB_ wi g tb):=by
 intro pins s σ H D I h;refine wpAny_For (thn (hi pins s σ H _ I h) fun v s1 h1=>thn h1 fun itv s2 h2=> ?_) hs;obtain⟨it,fp,tn,J,H2,e,I2,T,st2,f2,Wq,⟨m0,w0⟩,turn⟩:=h2;subst e;have stat:∀{H':Hp},(∀b∈fp,H' b=none)->∀b∈fp,iy_ X pins H' b:=fun hn b hb=>⟨hn b hb,(f2 b hb).2⟩;refine codeAny_forLoop_any (fun n s'=>∃i σ' H',Inv X pins σ' H' s'/\tn i s'.heap/\(∀b∈fp,H' b=none)/\Wq i n σ' H') ?_ m0 ⟨0,σ,H2,I2,st2,fun b hb=>(f2 b hb).1,w0⟩;rintro n s3 ⟨i,σ3,H3,I3,st3,fr3,w3⟩;rcases turn i n σ3 H3 w3 with⟨stop,qn⟩|⟨go,N,hN,step⟩
 .refine C9 hp (thn (T.done X rfl rfl rfl hc i pins s3 σ3 H3 X.xe I3 (stat fr3) st3 stop) fun r s4 ⟨hr,I4⟩=> ?_);subst hr;exact D8 ⟨σ3,H3,I4,qn⟩
 .refine C9 hp (thn (T.item X rfl rfl rfl hc i pins s3 σ3 H3 X.xe I3 (stat fr3) st3 go) fun r s4 ⟨u,hr,h4⟩=> ?_);subst hr;refine C9 hp (thn h4 fun _ s5 ⟨x,H5,I5,r5,y5,st5,fr5⟩=> ?_);have I5':=I5.pinned (stat fr5) (T.obj _ _ st5);refine C9 hp (thn (hg _ s5 σ3 H5 x u _ I5' r5 (step x H5 y5)) fun _ s6 ⟨σ6,H6,I6,q6⟩=> ?_);refine C9 hp (thn (hb _ s6 σ6 H6 _ I6 q6) fun f s7 q7=> ?_);have again:∀{σ7:St}{H7:Hp},Inv X (pins++gS_ fp s5.heap) σ7 H7 s7->N σ7 H7->∃m,m<n/\∃i σ' H',Inv X pins σ' H' s7/\tn i s7.heap/\(∀b∈fp,H' b=none)/\Wq i m σ' H':=fun{σ7 H7} I7 n7=>by
   obtain⟨m',hm,w7⟩:=hN σ7 H7 n7;refine⟨m',hm,i+1,σ7,H7,I7.unpinned,T.keep _ _ _ st5 fun b hb o e=>(I7.pin (b,o) (Al _ (Al _ (cQ_ hb e)))).1,fun b hb=> ?_,w7⟩;obtain⟨o,e,d⟩:=T.obj _ _ st5 b hb;exact(I7.pin (b,o) (Al _ (Al _ (cQ_ hb e)))).2.1
  cases f with
  |next=>obtain⟨σ7,H7,I7,n7⟩:=q7;exact again I7 n7
  |cont=>obtain⟨σ7,H7,I7,n7⟩:=q7;exact again I7 n7
  |brk=>obtain⟨σ7,H7,I7,q7⟩:=q7;exact⟨σ7,H7,I7.unpinned,q7⟩
  |ret v=>obtain⟨x7,σ7,H7,I7,r7,q7⟩:=q7;exact⟨x7,σ7,H7,I7.unpinned,r7,q7⟩
end
theorem b0_ {K:W.Frag}{a:Addr}{xs:List V}{g:TG}{tb:TS}{D:Ends}{σ:St}{H:Hp} (Pv:Nat->St->Hp->Prop) (h0:Pv 0 σ H) (hl:∀i σ H,i<=xs.length->Pv i σ H->SqL K H a xs)
  (hs:∀i x σ H,xs[i]? =some x->Pv i σ H->g x σ H fun σ2 H2=>tb {D with nx:=Pv (i+1),ct:=Pv (i+1),bk:=D.nx} σ2 H2) (hd:∀σ H,Pv xs.length σ H->D.nx σ H):
  ∃Wq:Nat->Nat->St->Hp->Prop,(∃m,Wq 0 m σ H)/\∀i m σ H,Wq i m σ H->
   ((Itl K a).stop i H/\D.nx σ H)\/((Itl K a).go i H/\∃N:St->Hp->Prop,(∀σ' H',N σ' H'->∃m',m'<m/\Wq (i+1) m' σ' H')/\∀x H',(Itl K a).yld i H x H'->g x σ H' fun σ2 H2=>tb {D with nx:=N,ct:=N,bk:=D.nx} σ2 H2):=by
 refine⟨fun i m σ H=>m=xs.length-i/\i<=xs.length/\Pv i σ H,⟨xs.length,by simp,AT _,h0⟩, ?_⟩;rintro i m σ H ⟨rfl,hi,p⟩;have q:=hl i σ H hi p;by_cases hlt:i<xs.length
 .refine .inr ⟨⟨xs,xs[i],q,by simp [hlt]⟩,Pv (i+1),fun σ' H' p'=>⟨xs.length-(i+1),by lia,rfl,hlt,p'⟩,fun x H' y=> ?_⟩;obtain⟨e,y⟩:=y;subst e;exact hs i x σ _ (y xs q) p
 .have e:i=xs.length:=by lia
  subst e;exact .inl ⟨⟨xs,q,A5 _⟩,hd σ H p⟩
theorem o4_ {K:W.Frag}{a:Addr}{xs:List V}{g:TG}{tb:TS}{D:Ends}{σ:St}{H:Hp} (Pv:Nat->St->Hp->Prop) (h0:Pv 0 σ H) (hl:∀i σ H,i<=xs.length->Pv i σ H->SqT K H a xs)
  (hs:∀i x σ H,xs[i]? =some x->Pv i σ H->g x σ H fun σ2 H2=>tb {D with nx:=Pv (i+1),ct:=Pv (i+1),bk:=D.nx} σ2 H2) (hd:∀σ H,Pv xs.length σ H->D.nx σ H):
  ∃Wq:Nat->Nat->St->Hp->Prop,(∃m,Wq 0 m σ H)/\∀i m σ H,Wq i m σ H->
   ((Itt K a).stop i H/\D.nx σ H)\/((Itt K a).go i H/\∃N:St->Hp->Prop,(∀σ' H',N σ' H'->∃m',m'<m/\Wq (i+1) m' σ' H')/\∀x H',(Itt K a).yld i H x H'->g x σ H' fun σ2 H2=>tb {D with nx:=N,ct:=N,bk:=D.nx} σ2 H2):=by
 refine⟨fun i m σ H=>m=xs.length-i/\i<=xs.length/\Pv i σ H,⟨xs.length,by simp,AT _,h0⟩, ?_⟩;rintro i m σ H ⟨rfl,hi,p⟩;have q:=hl i σ H hi p;by_cases hlt:i<xs.length
 .refine .inr ⟨⟨xs,xs[i],q,by simp [hlt]⟩,Pv (i+1),fun σ' H' p'=>⟨xs.length-(i+1),by lia,rfl,hlt,p'⟩,fun x H' y=> ?_⟩;obtain⟨e,y⟩:=y;subst e;exact hs i x σ _ (y xs q) p
 .have e:i=xs.length:=by lia
  subst e;exact .inl ⟨⟨xs,q,A5 _⟩,hd σ H p⟩
theorem bT_ {lo:Int}{n:Nat}{g:TG}{tb:TS}{D:Ends}{σ:St}{H:Hp} (Pv:Nat->St->Hp->Prop) (h0:Pv 0 σ H)
  (hs:∀i σ H,i<n->Pv i σ H->g (.int (lo+i)) σ H fun σ2 H2=>tb {D with nx:=Pv (i+1),ct:=Pv (i+1),bk:=D.nx} σ2 H2) (hd:∀σ H,Pv n σ H->D.nx σ H):
  ∃Wq:Nat->Nat->St->Hp->Prop,(∃m,Wq 0 m σ H)/\∀i m σ H,Wq i m σ H->
   ((Itr lo n).stop i H/\D.nx σ H)\/((Itr lo n).go i H/\∃N:St->Hp->Prop,(∀σ' H',N σ' H'->∃m',m'<m/\Wq (i+1) m' σ' H')/\∀x H',(Itr lo n).yld i H x H'->g x σ H' fun σ2 H2=>tb {D with nx:=N,ct:=N,bk:=D.nx} σ2 H2):=by
 refine⟨fun i m σ H=>m=n-i/\i<=n/\Pv i σ H,⟨n,by simp,AT _,h0⟩, ?_⟩;rintro i m σ H ⟨rfl,hi,p⟩;by_cases hlt:i<n
 .refine .inr ⟨hlt,Pv (i+1),fun σ' H' p'=>⟨n-(i+1),by lia,rfl,hlt,p'⟩,fun x H' y=> ?_⟩;obtain⟨e,y⟩:=y;subst e y;exact hs i σ _ hlt p
 .have e:i=n:=by lia
  subst e;exact .inl ⟨A5 _,hd σ H p⟩
theorem d5_ {c:TT}{tb:TS}{D:Ends}{σ:St}{H:Hp} (Pv:St->Hp->Prop) (μ:St->Hp->Nat) (h0:Pv σ H)
  (hs:∀σ H,Pv σ H->c σ H fun b H1=>if b=true then tb {D with nx:=fun σ' H'=>Pv σ' H'/\μ σ' H'<μ σ H,ct:=fun σ' H'=>Pv σ' H'/\μ σ' H'<μ σ H,bk:=D.nx} σ H1 else D.nx σ H1)
  (mono:∀σ H Q Q',(∀b H1,Q b H1->Q' b H1)->c σ H Q->c σ H Q'):kn_ c tb D σ H:=by
 refine⟨fun m σ H=>m=μ σ H/\Pv σ H,⟨_,rfl,h0⟩, ?_⟩;rintro m σ H ⟨rfl,p⟩;refine mono σ H _ _ (fun b H1 q=> ?_) (hs σ H p);cases b with
 |true=>exact⟨_,fun σ' H' ⟨p',l⟩=>⟨_,l,rfl,p'⟩,q⟩
 |false=>exact q
end L2
namespace L2
open PySem PySem.Spec PyProof.Rows
abbrev R2:=V->V->Hp->VK->Prop
def OpR (X:Cx) (f:Value->Value->Sem Value) (r:R2):Prop:=
 ∀(pins:List (Addr×Obj)) (s:Shared) (σ:St) (H:Hp) (x y:V) (v u:Value) (Q:VK),Inv X pins σ H s->be_ x v->be_ y u->r x y H Q->
  wpAny (model X.prog X.w) X.A (f v u) (EP X pins σ Q) X.xe s
def UnR (X:Cx) (f:Value->Sem Value) (r:V->Hp->VK->Prop):Prop:=
 ∀(pins:List (Addr×Obj)) (s:Shared) (σ:St) (H:Hp) (x:V) (v:Value) (Q:VK),Inv X pins σ H s->be_ x v->r x H Q->
  wpAny (model X.prog X.w) X.A (f v) (EP X pins σ Q) X.xe s
def ca_ (X:Cx) (f:Value) (r:List V->Hp->VK->Prop):Prop:=
 ∀(pins:List (Addr×Obj)) (s:Shared) (σ:St) (H:Hp) (xs:List V) (us:List Value) (Q:VK),Inv X pins σ H s->aV_ xs us->r xs H Q->
  wpAny (model X.prog X.w) X.A (call f us) (EP X pins σ Q) X.xe s
def s1_ (X:Cx) (r:V->Hp->(Bool->Hp->Prop)->Prop):Prop:=
 ∀(pins:List (Addr×Obj)) (s:Shared) (σ:St) (H:Hp) (x:V) (v:Value) (Q:Bool->Hp->Prop),Inv X pins σ H s->be_ x v->r x H Q->
  wpAny (model X.prog X.w) X.A (truthy v) (TP X pins σ Q) X.xe s
def tOp (r:R2) (ta tb:TE):TE:=fun σ H Q=>ta σ H fun x H1=>tb σ H1 fun y H2=>r x y H2 Q
def tUn (r:V->Hp->VK->Prop) (ta:TE):TE:=fun σ H Q=>ta σ H fun x H1=>r x H1 Q
def rI (C:Int->Int->Prop) (g:Int->Int->V):R2:=fun x y H Q=>∃i j,x= .int i/\y= .int j/\C i j/\Q (g i j) H
def rI0 (g:Int->Int->V):R2:=fun x y H Q=>∃i j,x= .int i/\y= .int j/\Q (g i j) H
def rU (g:Int->V):V->Hp->VK->Prop:=fun x H Q=>∃i,x= .int i/\Q (g i) H
section
variable {X:Cx}{a b c:Expr}{ta tb tc:TE}{pos:Pos}
theorem r5_ (ha:PE X a ta) (hb:PE X b tb) {pins:List (Addr×Obj)}{s:Shared}{σ:St}{H:Hp}{R:V->V->Hp->Prop} (I:Inv X pins σ H s)
  (h:ta σ H fun x H1=>tb σ H1 fun y H2=>R x y H2) {Q:Value->Shared->Prop}{f:Value->Value->Sem Value}
  (hf:∀v u s2 x y H2,Inv X pins σ H2 s2->be_ x v->be_ y u->R x y H2->wpAny (model X.prog X.w) X.A (f v u) Q X.xe s2):
  wpAny (model X.prog X.w) X.A (eval a X.env) (fun v s₁=>wpAny (model X.prog X.w) X.A (eval b X.env) (fun u s₂=>wpAny (model X.prog X.w) X.A (f v u) Q X.xe s₂) X.xe s₁) X.xe s:=by
 refine thn (ha pins s σ H _ I h) fun v s1 ⟨x,H1,I1,r1,q1⟩=> ?_;refine thn (hb pins s1 σ H1 _ I1 q1) fun u s2 ⟨y,H2,I2,r2,q2⟩=> ?_;exact hf v u s2 x y H2 I2 r1 r2 q2
theorem ai_ {op:Operator}{r:R2} (ho:OpR X (binaryOp op) r) (ha:PE X a ta) (hb:PE X b tb):PE X (.BinOp a op b pos) (tOp r ta tb):=by
 intro pins s σ H Q I h;exact wpAny_BinOp (r5_ ha hb I h fun v u s2 x y H2 I2 rx ry q=>ho pins s2 σ H2 x y v u Q I2 rx ry q)
theorem h4_ {op:UnaryOp}{r:V->Hp->VK->Prop} (ho:UnR X (unaryOp op) r) (ha:PE X a ta):PE X (.UnaryOp op a pos) (tUn r ta):=by
 intro pins s σ H Q I h;exact UnaryOp_ (thn (ha pins s σ H _ I h) fun v s1 ⟨x,H1,I1,r1,q1⟩=>ho pins s1 σ H1 x v Q I1 r1 q1)
theorem opI {f:Value->Value->Sem Value}{C:Int->Int->Prop}{g:Int->Int->Int}
  (rule:∀(i j:Int) (t u:Tok) (s:Shared) (Q:Value->Shared->Prop) (E:Value->Shared->Prop),C i j->Q (.int (g i j) s.toks) {s with toks:=s.toks+1}->wpAny (model X.prog X.w) X.A (f (.int i t) (.int j u)) Q E s):
  OpR X f (rI C fun i j=> .int (g i j)):=by
 intro pins s σ H x y v u Q I rx ry h;obtain⟨i,j,rfl,rfl,hc,q⟩:=h;obtain⟨t,rfl⟩:=rx;obtain⟨t',rfl⟩:=ry;exact rule i j t t' s _ _ hc ⟨.int (g i j),H,I.tok _,⟨_,rfl⟩,q⟩
theorem sj_ {f:Value->Value->Sem Value}{g:Int->Int->Int}
  (rule:∀(i j:Int) (t u:Tok) (s:Shared) (Q:Value->Shared->Prop) (E:Value->Shared->Prop),Q (.int (g i j) s.toks) {s with toks:=s.toks+1}->wpAny (model X.prog X.w) X.A (f (.int i t) (.int j u)) Q E s):
  OpR X f (rI0 fun i j=> .int (g i j)):=by
 intro pins s σ H x y v u Q I rx ry h;obtain⟨i,j,rfl,rfl,q⟩:=h;obtain⟨t,rfl⟩:=rx;obtain⟨t',rfl⟩:=ry;exact rule i j t t' s _ _ ⟨.int (g i j),H,I.tok _,⟨_,rfl⟩,q⟩
theorem q6_ {f:Value->Value->Sem Value}{g:Int->Int->Bool}
  (rule:∀(i j:Int) (t u:Tok) (s:Shared) (Q:Value->Shared->Prop) (E:Value->Shared->Prop),Q (.bool (g i j)) s->wpAny (model X.prog X.w) X.A (f (.int i t) (.int j u)) Q E s):
  OpR X f (rI0 fun i j=> .bl (g i j)):=by
 intro pins s σ H x y v u Q I rx ry h;obtain⟨i,j,rfl,rfl,q⟩:=h;obtain⟨t,rfl⟩:=rx;obtain⟨t',rfl⟩:=ry;exact rule i j t t' s _ _ ⟨.bl (g i j),H,I,rfl,q⟩
def s6_ (i j:Int):Prop:=0<j/\j<1073741824
def s5_ (i j:Int):Prop:=0<=j/\j<=1000000/\i.natAbs<2^64
def q9_ (i j:Int):Prop:=(-(2^64)<i/\i<2^64)\/(-(2^64)<j/\j<2^64)
theorem q9_.ok {i j:Int} (h:q9_ i j):IntMulOk i j:=by
 rcases h with⟨h1,h2⟩|⟨h1,h2⟩
 .exact .of_left (intBits_le_64 h1 h2)
 .exact .of_right (intBits_le_64 h1 h2)
theorem aE_:OpR X (binaryOp .Add) (rI0 fun i j=> .int (i+j)):=sj_ fun _ _ _ _ _ _ _ q=>add_int q
theorem aW_:OpR X (binaryOp .Sub) (rI0 fun i j=> .int (i-j)):=sj_ fun _ _ _ _ _ _ _ q=>sub_int q
theorem ck_:OpR X (binaryOp .Mult) (rI q9_ fun i j=> .int (i*j)):=opI fun _ _ _ _ _ _ _ hc q=>mul_int q hc.ok
theorem f2_:OpR X (binaryOp .FloorDiv) (rI s6_ fun i j=> .int (i/j)):=opI fun i j _ _ _ _ _ hc q=>by
 have h1:(0:Int)<j:=hc.1;have h2:j<1073741824:=hc.2;exact floordiv_int (by lia) (by rw [BY i (by lia)];exact q) (.inl (PyProof.noPylong_small (by lia)))
theorem eD_:OpR X (binaryOp .Mod) (rI (fun _ j=>0<j) fun i j=> .int (i%j)):=opI fun i j _ _ _ _ _ hc q=>by
 have h1:(0:Int)<j:=hc;exact mod_int' (by lia) (by rw [Int.fmod_eq_emod_of_nonneg i (by lia)];exact q)
theorem iR_:OpR X (binaryOp .Pow) (rI s5_ fun i j=> .int (i^j.toNat)):=opI fun _ _ _ _ _ _ _ hc q=>pow_int_small hc.1 hc.2.1 hc.2.2 q
theorem unI {f:Value->Sem Value}{g:Int->Int}
  (rule:∀(i:Int) (t:Tok) (s:Shared) (Q:Value->Shared->Prop) (E:Value->Shared->Prop),Q (.int (g i) s.toks) {s with toks:=s.toks+1}->wpAny (model X.prog X.w) X.A (f (.int i t)) Q E s):
  UnR X f (rU fun i=> .int (g i)):=by
 intro pins s σ H x v Q I rx h;obtain⟨i,rfl,q⟩:=h;obtain⟨t,rfl⟩:=rx;exact rule i t s _ _ ⟨.int (g i),H,I.tok _,⟨_,rfl⟩,q⟩
theorem en_:UnR X (unaryOp .USub) (rU fun i=> .int (-i)):=unI fun _ _ _ _ _ q=>neg_int q
end
def sf_:V->V->Bool
 | .non, .non=>true| .non, .int _=>true| .int _, .non=>true| .non, .bl _=>true| .bl _, .non=>true| .non, .str _=>true| .str _, .non=>true
 | .int _, .int _=>true| .bl _, .bl _=>true| .str _, .str _=>true| .byt _, .byt _=>true
 | .int _, .str _=>true| .str _, .int _=>true| .bl _, .str _=>true| .str _, .bl _=>true
 |_,_=>false
def rEq:R2:=fun x y H Q=>sf_ x y=true/\Q (.bl (decide (x=y))) H
def rNe:R2:=fun x y H Q=>sf_ x y=true/\Q (.bl (!decide (x=y))) H
theorem lT_ {i j:Int}:decide (V.int i=V.int j)=(i==j):=by
 rw [Bool.eq_iff_iff];simp
theorem nS_ {i j:Bool}:decide (V.bl i=V.bl j)=(i==j):=by
 rw [Bool.eq_iff_iff];simp
theorem lS_ {i j:Str}:decide (V.str i=V.str j)=(i==j):=by
 rw [Bool.eq_iff_iff];simp
theorem lU_ {i j:Array UInt8}:decide (V.byt i=V.byt j)=(i.toList==j.toList):=by
 rw [Bool.eq_iff_iff];cases i;cases j;simp
section
variable {X:Cx}{a b c:Expr}{ta tb tc:TE}{pos:Pos}
theorem aO_ {pins:List (Addr×Obj)}{σ:St}{H:Hp}{s:Shared}{Q:VK}{k k':Bool} (I:Inv X pins σ H s) (q:Q (.bl k) H) (e:k=k'):EP X pins σ Q (.bool k') s:=by
 subst e;exact⟨.bl k,H,I,rfl,q⟩
theorem eE_:OpR X (compareOp .Eq) rEq:=by
 intro pins s σ H x y v u Q I rx ry h;obtain⟨hs,q⟩:=h;cases x with
 |non=>
  cases rx;cases y with
  |non=>cases ry;exact PySem.EqNone.eq_none_none (aO_ I q (by simp))
  |bl j=>cases ry;exact PySem.EqNone.eq_none_bool (aO_ I q (by simp))
  |int j=>obtain⟨t',rfl⟩:=ry;exact PySem.EqNone.eq_none_int (aO_ I q (by simp))
  |str j=>obtain⟨t',rfl⟩:=ry;exact PySem.EqNone.eq_none_str (aO_ I q (by simp))
  |_=>exact absurd (show false=true from hs) AQ
 |bl i=>
  cases rx;cases y with
  |non=>cases ry;exact PySem.EqNone.eq_bool_none (aO_ I q (by simp))
  |bl j=>cases ry;exact eq_bool (aO_ I q nS_)
  |str j=>obtain⟨t',rfl⟩:=ry;exact PySem.EqMixed.eq_bool_str (aO_ I q (by simp))
  |_=>exact absurd (show false=true from hs) AQ
 |int i=>
  obtain⟨t,rfl⟩:=rx;cases y with
  |non=>cases ry;exact PySem.EqNone.eq_int_none (aO_ I q (by simp))
  |int j=>obtain⟨t',rfl⟩:=ry;exact eq_int (aO_ I q lT_)
  |str j=>obtain⟨t',rfl⟩:=ry;exact PySem.EqMixed.eq_int_str (aO_ I q (by simp))
  |_=>exact absurd (show false=true from hs) AQ
 |str i=>
  obtain⟨t,rfl⟩:=rx;cases y with
  |non=>cases ry;exact PySem.EqNone.eq_str_none (aO_ I q (by simp))
  |bl j=>cases ry;exact PySem.EqMixed.eq_str_bool (aO_ I q (by simp))
  |int j=>obtain⟨t',rfl⟩:=ry;exact PySem.EqMixed.eq_str_int (aO_ I q (by simp))
  |str j=>obtain⟨t',rfl⟩:=ry;exact eq_str (aO_ I q lS_)
  |_=>exact absurd (show false=true from hs) AQ
 |byt i=>
  obtain⟨t,rfl⟩:=rx;cases y with
  |byt j=>obtain⟨t',rfl⟩:=ry;exact W.eq_bytes (aO_ I q lU_)
  |_=>exact absurd (show false=true from hs) AQ
 |_=>cases y<;>exact absurd (show false=true from hs) AQ
theorem rN_:OpR X (compareOp .NotEq) rNe:=by
 intro pins s σ H x y v u Q I rx ry h;obtain⟨hs,q⟩:=h;cases x with
 |non=>
  cases rx;cases y with
  |non=>cases ry;exact PySem.EqNone.ne_none_none (aO_ I q (by simp))
  |bl j=>cases ry;exact PySem.EqNone.ne_none_bool (aO_ I q (by simp))
  |int j=>obtain⟨t',rfl⟩:=ry;exact PySem.EqNone.ne_none_int (aO_ I q (by simp))
  |str j=>obtain⟨t',rfl⟩:=ry;exact PySem.EqNone.ne_none_str (aO_ I q (by simp))
  |_=>exact absurd (show false=true from hs) AQ
 |bl i=>
  cases rx;cases y with
  |non=>cases ry;exact PySem.EqNone.ne_bool_none (aO_ I q (by simp))
  |bl j=>cases ry;exact ne_bool (aO_ I q (BW not nS_))
  |str j=>obtain⟨t',rfl⟩:=ry;exact PySem.EqMixed.ne_bool_str (aO_ I q (by simp))
  |_=>exact absurd (show false=true from hs) AQ
 |int i=>
  obtain⟨t,rfl⟩:=rx;cases y with
  |non=>cases ry;exact PySem.EqNone.ne_int_none (aO_ I q (by simp))
  |int j=>obtain⟨t',rfl⟩:=ry;exact ne_int (aO_ I q (BW not lT_))
  |str j=>obtain⟨t',rfl⟩:=ry;exact PySem.EqMixed.ne_int_str (aO_ I q (by simp))
  |_=>exact absurd (show false=true from hs) AQ
 |str i=>
  obtain⟨t,rfl⟩:=rx;cases y with
  |non=>cases ry;exact PySem.EqNone.ne_str_none (aO_ I q (by simp))
  |bl j=>cases ry;exact PySem.EqMixed.ne_str_bool (aO_ I q (by simp))
  |int j=>obtain⟨t',rfl⟩:=ry;exact PySem.EqMixed.ne_str_int (aO_ I q (by simp))
  |str j=>obtain⟨t',rfl⟩:=ry;exact ne_str (aO_ I q (BW not lS_))
  |_=>exact absurd (show false=true from hs) AQ
 |byt i=>
  obtain⟨t,rfl⟩:=rx;cases y with
  |byt j=>obtain⟨t',rfl⟩:=ry;exact W.ne_bytes (aO_ I q (BW not lU_))
  |_=>exact absurd (show false=true from hs) AQ
 |_=>cases y<;>exact absurd (show false=true from hs) AQ
theorem gU_:OpR X (compareOp .Lt) (rI0 fun i j=> .bl (decide (i<j))):=q6_ fun _ _ _ _ _ _ _ q=>lt_int q
theorem h6_:OpR X (compareOp .LtE) (rI0 fun i j=> .bl (decide (i<=j))):=q6_ fun _ _ _ _ _ _ _ q=>le_int q
theorem gV_:OpR X (compareOp .Gt) (rI0 fun i j=> .bl (decide (j<i))):=q6_ fun _ _ _ _ _ _ _ q=>gt_int q
theorem rO_:OpR X (compareOp .GtE) (rI0 fun i j=> .bl (decide (j<=i))):=q6_ fun _ _ _ _ _ _ _ q=>ge_int q
theorem aH_ (b:Expr) {op:CmpOp} (h:op≠ .In:=by decide) (h2:op≠ .NotIn:=by decide):behindInMarks op b=false:=by
 have e1:(op==CmpOp.In)=false:=by cases op<;>first|rfl|exact absurd rfl h
 have e2:(op==CmpOp.NotIn)=false:=by cases op<;>first|rfl|exact absurd rfl h2
 cases b<;>simp [behindInMarks,e1,e2]
theorem ey_ {op:CmpOp}{r:R2} (ho:OpR X (compareOp op) r) (ha:PE X a ta) (hb:PE X b tb) (hm:behindInMarks op b=false):PE X (.Compare a [op] [b] pos) (tOp r ta tb):=by
 intro pins s σ H Q I h;exact wpAny_Compare1 (r5_ ha hb I h fun v u s2 x y H2 I2 rx ry q=>ho pins s2 σ H2 x y v u Q I2 rx ry q) hm
def pL_ (t:TE):TT:=fun σ H Q=>t σ H fun x H'=>∃k,x= .bl k/\Q k H'
theorem aA_ {op:CmpOp}{r:R2} (ho:OpR X (compareOp op) r) (ha:PE X a ta) (hb:PE X b tb) (hm:behindInMarks op b=false):PT X (.Compare a [op] [b] pos) (pL_ (tOp r ta tb)):=by
 intro pins s σ H Q I h;refine wpAny_isTrue_Compare1 (thn (ha pins s σ H _ I h) fun v s1 ⟨x,H1,I1,r1,q1⟩=>thn (hb pins s1 σ H1 _ I1 q1) fun u s2 ⟨y,H2,I2,r2,q2⟩=>
  thn (ho pins s2 σ H2 x y v u _ I2 r1 r2 q2) fun c s3 ⟨z,H3,I3,r3,k,e,q3⟩=> ?_) hm
 subst e;cases r3;exact BF ⟨H3,I3,q3⟩
def nk_ (r r':R2) (ta tb tc:TE):TE:=fun σ H Q=>ta σ H fun x H1=>tb σ H1 fun y H2=>r x y H2 fun z H3=>∃k,z= .bl k/\
 (if k=true then tc σ H3 fun w' H4=>r' y w' H4 Q else Q (.bl false) H3)
theorem mC_ {op op':CmpOp}{r r':R2} (ho:OpR X (compareOp op) r) (ho':OpR X (compareOp op') r') (ha:PE X a ta) (hb:PE X b tb) (hc:PE X c tc)
  (hm:lastMarks [op,op'] [b,c]=false:=by with_unfolding_all rfl):PE X (.Compare a [op,op'] [b,c] pos) (nk_ r r' ta tb tc):=by
 intro pins s σ H Q I h;refine Compare_chain (thn (ha pins s σ H _ I h) fun v s1 ⟨x,H1,I1,r1,q1⟩=>chain_link (thn (hb pins s1 σ H1 _ I1 q1) fun u s2 ⟨y,H2,I2,r2,q2⟩=>
  thn (ho pins s2 σ H2 x y v u _ I2 r1 r2 q2) fun d s3 ⟨z,H3,I3,r3,k,e,q3⟩=> ?_)) hm
 subst e;cases r3;refine BF ?_;cases k with
 |false=>exact ite_ff ⟨.bl false,H3,I3,rfl,q3⟩
 |true=>exact ite_tt (chain_last (thn (hc pins s3 σ H3 _ I3 q3) fun w' s4 ⟨z',H4,I4,r4,q4⟩=>ho' pins s4 σ H4 y z' u w' Q I4 r2 r4 q4))
theorem fX_ {op op':CmpOp}{r r':R2} (ho:OpR X (compareOp op) r) (ho':OpR X (compareOp op') r') (ha:PE X a ta) (hb:PE X b tb) (hc:PE X c tc)
  (hm:lastMarks [op,op'] [b,c]=false:=by with_unfolding_all rfl):PT X (.Compare a [op,op'] [b,c] pos) (pL_ (nk_ r r' ta tb tc)):=by
 intro pins s σ H Q I h;refine isTrue_chain (thn (ha pins s σ H _ I h) fun v s1 ⟨x,H1,I1,r1,q1⟩=>test_link (thn (hb pins s1 σ H1 _ I1 q1) fun u s2 ⟨y,H2,I2,r2,q2⟩=>
  thn (ho pins s2 σ H2 x y v u _ I2 r1 r2 q2) fun d s3 ⟨z,H3,I3,r3,k,e,q3⟩=> ?_)) hm
 subst e;cases r3;refine BF ?_;cases k with
 |false=>
  obtain⟨k',e',q'⟩:=q3;cases e';exact ite_ff ⟨H3,I3,q'⟩
 |true=>
  refine ite_tt (test_last (thn (hc pins s3 σ H3 _ I3 q3) fun w' s4 ⟨z',H4,I4,r4,q4⟩=>thn (ho' pins s4 σ H4 y z' u w' _ I4 r2 r4 q4) fun d' s5 ⟨z2,H5,I5,r5,k2,e2,q5⟩=> ?_));subst e2;cases r5;exact BF ⟨H5,I5,q5⟩
def sn_ (K:W.Frag) (x:V) (H:Hp) (k:Bool):Prop:=
 match x with
 | .non=>k=false
 | .bl b=>k=b
 | .int i=>k=(i !=0)
 | .str y=>y.length<=sizeLine/\k=((y.length:Int) !=0)
 | .byt y=>y.size<=sizeLine/\k=((y.size:Int) !=0)
 | .ref p=>(∃xs,SqL K H p xs/\k= !xs.isEmpty)\/(∃xs,SqT K H p xs/\k= !xs.isEmpty)\/∃kvs,H p=some (.dK kvs)/\k= !kvs.isEmpty
 |_=>False
theorem jW_ {κ:Type}{kvs:List (κ×V)}{vs:List (κ×Value)} (r:KV kvs vs):(!vs.isEmpty)= !kvs.isEmpty:=by
 cases r<;>rfl
theorem fB_ {xs:List V}{its:List Value} (r:aV_ xs its):(!its.toArray.isEmpty)= !xs.isEmpty:=by
 cases r<;>simp
theorem fy_:(sizeLine:Nat)<2^63:=by rw [B'];decide
theorem pH_:s1_ X (fun x H Q=>∃k,sn_ X.K x H k/\Q k H):=by
 intro pins s σ H x v Q I rx h;obtain⟨k,e,q⟩:=h;have hl:=fy_;have hs:sizeLine=16777216:=B';cases x with
 |non=>
  cases rx;have e':k=false:=e;subst e';exact truthy_none ⟨H,I,q⟩
 |bl b=>
  cases rx;have e':k=b:=e;subst e';exact BF ⟨H,I,q⟩
 |int i=>
  obtain⟨t,rfl⟩:=rx;have e':k=(i !=0):=e;subst e';exact PySem.P.truthy_int ⟨H,I,q⟩
 |str y=>
  obtain⟨t,rfl⟩:=rx;obtain⟨hy,e'⟩:y.length<=sizeLine/\k=((y.length:Int) !=0):=e;subst e';exact PySem.P.truthy_str (by lia) ⟨H,I.tok _,q⟩
 |byt y=>
  obtain⟨t,rfl⟩:=rx;obtain⟨hy,e'⟩:y.size<=sizeLine/\k=((y.size:Int) !=0):=e;subst e';exact W.truthy_bytes (by lia) ⟨H,I.tok _,q⟩
 |ref p=>
  cases rx;have e':(∃xs,SqL X.K H p xs/\k= !xs.isEmpty)\/(∃xs,SqT X.K H p xs/\k= !xs.isEmpty)\/∃kvs,H p=some (.dK kvs)/\k= !kvs.isEmpty:=e;rcases e' with⟨xs,hx,e'⟩|⟨xs,hx,e'⟩|⟨kvs,hx,e'⟩
  .subst e';obtain⟨its,r,pl,hz⟩:=I.list hx;have hlen:=r.length;exact wpAny_truthy_list pl.isList (by simp only [A8];lia) ⟨H,I.tok _,by rw [fB_ r];exact q⟩
  .subst e';obtain⟨its,r,pl,hz⟩:=I.tuple hx;have hlen:=r.length;exact truthy_tuple pl (by simp only [A8];lia) ⟨H,I.tok _,by rw [fB_ r];exact q⟩
  .subst e';obtain⟨hz,hS,vs,r,m⟩:kvs.length<=sizeLine/\(p==sysModules)=false/\∃vs,KV kvs vs/\s.heap.DictOf (bb_ X.prog X.w) p vs:=I.hok p _ hx;have hlen:kvs.length=vs.length:=Bz r;exact wpAny_truthy_dict hS m (by lia) ⟨H,I.tok _,by rw [jW_ r];exact q⟩
 |_=>exact(show False from e).elim
theorem fW_ (ha:PE X a ta) (he:∀whole,isTrue a X.env whole=(do let v<-whole;standAt a.pos;holding [v] (truthy v))):
  PT X a (fun σ H Q=>ta σ H fun x H'=>∃k,sn_ X.K x H' k/\Q k H'):=by
 intro pins s σ H Q I h;exact isTrue_plain (thn (ha pins s σ H _ I h) fun v s1 ⟨x,H1,I1,r1,q1⟩=>pH_ pins s1 σ H1 x v Q I1 r1 q1) (he _)
theorem dA_ {x:V}{us:List Value} (r:aV_ [x] us):∃u,us=[u]/\be_ x u:=by
 cases r with
 |cons r1 r2=>cases r2;exact⟨_,rfl,r1⟩
theorem kd_ {x y:V}{us:List Value} (r:aV_ [x,y] us):∃u w',us=[u,w']/\be_ x u/\be_ y w':=by
 cases r with
 |cons r1 r2=>
  cases r2 with
  |cons r3 r4=>cases r4;exact⟨_,_,rfl,r1,r3⟩
theorem ej_:ca_ X (.builtin "abs") (fun xs H Q=>∃i,xs=[.int i]/\Q (.int (if i<0 then -i else i)) H):=by
 intro pins s σ H xs us Q I r h;obtain⟨i,rfl,q⟩:=h;obtain⟨u,rfl,t,rfl⟩:=dA_ r;exact call_abs_int fun u tk=>⟨.int (if i<0 then -i else i),H,I.tok _,⟨_,rfl⟩,q⟩
theorem l0_ (hc:X.calm=true):ca_ X (.builtin "max") (fun xs H Q=>∃i j,xs=[.int i, .int j]/\Q (.int (if j>i then j else i)) H):=by
 intro pins s σ H xs us Q I r h;obtain⟨i,j,rfl,q⟩:=h;obtain⟨u,w',rfl,⟨t,rfl⟩,⟨t',rfl⟩⟩:=kd_ r;refine max_two_ints (I.ok.hd hc) fun h' tk k=>⟨_,H,I.kept k, ?_,q⟩;by_cases hj:j>i
 .rw [A9 hj,A9 hj];exact⟨_,rfl⟩
 .rw [A7 hj,A7 hj];exact⟨_,rfl⟩
end
end L2
namespace L2
open PySem PySem.Spec PyProof.Rows
structure ObjM (h:Heap) (x dx C:Addr) (mA:Str->Option Value):Prop where
 obj:h.get? x=some (W.instObj C dx)
 ns:h.Ns1 dx mA
 ne:dx≠x
theorem ll_ {h:Heap}{dx:Addr}{mA:Str->Option Value} (n:h.Ns1 dx mA):∃od,h.get? dx=some od/\∀name,W.lookIn name od=some (mA name):=by
 obtain⟨o,es,ep,ho,hd,hk,_,hm⟩:=n;refine⟨o,ho,fun name=> ?_⟩;have e:=hm name;unfold nsFind findBy at e;rw [<-Array.find?_toList] at e;unfold W.lookIn;rw [hd];dsimp only;split
 .rename_i y q;rw [q] at e;exact BW some e
 .rename_i q;rw [q] at e;have a:es.toList.any (·.refKey)=false:=by
   rw [List.any_eq_false];intro y hy;obtain⟨z,t,hkey⟩:=hk y (Array.mem_toList_iff.mp hy);simp [DictEntry.refKey,hkey]
  have a':¬es.toList.any (·.refKey)=true:=by rw [a];exact AQ
  rw [A7 a'];exact BW some e
theorem ObjM.look {h:Heap}{x dx C:Addr}{mA:Str->Option Value} (I:ObjM h x dx C mA):∃od,W.InstAt h x (W.instObj C dx) C (some od)/\∀name,W.lookIn name od=some (mA name):=
 let ⟨od,ho,hl⟩:=ll_ I.ns
 ⟨od,⟨I.obj,rfl,rfl,ho⟩,hl⟩
section
variable {prog:Program}{w:World}{A:Around}{E:Value->Shared->Prop}{s:Shared}{K:W.Frag}{x dx C f:Addr}{mA:Str->Option Value}{name:Str}{v:Value}
end
theorem j6_.some_of {v:V}{o:Option Value} (r:j6_ (some v) o):∃u,o=some u/\be_ v u:=by
 cases o with
 |none=>exact(show False from r).elim
 |some u=>exact⟨u,rfl,r⟩
section
variable {P:Program}{w:World}{H H':Hp}{h h':Heap}{a C dx:Addr}{fs fs':List (Str×V)}
theorem oV_ (hok:HOk P w H h) (e:H a=some (.ins C dx fs)):∃mA,ObjM h a dx C mA/\(∀f,j6_ (fs.lookup f) (mA f))/\PySem.Within mA (fs.map (·.1))/\fs.length<=1000/\H dx=some (.own a):=by
 obtain⟨d,z,ne,ob,mA,n,r,q⟩:=(show aQ_ P w H h a (.ins C dx fs) from hok a _ e);exact⟨mA,⟨ob,n,ne⟩,r,q,z,d⟩
end
structure Cls (K:W.Frag) (C:Addr):Prop where
 pg:W.plainGet K C Str.empty=true
 hd:W.hasDictIn K C=true
 po:W.plainOver K C=true
 sa:W.findIn K (.ref C) "__setattr__"=some (some (.builtin "object.__setattr__"))
theorem Cls.get {K:W.Frag}{C:Addr} (c:Cls K C) (f:Str):W.plainGet K C f=true:=c.pg
section
variable {X:Cx}{pins:List (Addr×Obj)}{σ:St}{H:Hp}{s:Shared}{a C dx:Addr}{fs:List (Str×V)}{f:Str}{v:V}{A:Around}{E:Value->Shared->Prop}
end
section
variable {X:Cx}{o e value:Expr}{f:Str}{pos pos' tpos:Pos}{ta tv:TE}
end
section
variable {X:Cx}{pins:List (Addr×Obj)}{σ:St}{H:Hp}{s:Shared}{A:Around}{E:Value->Shared->Prop}{Q:Value->Shared->Prop}{c:Value}{b:Bool}
inductive TyOf (K:W.Frag) (H:Hp):V->Value->Prop where
 |non:TyOf K H .non (.type "NoneType")
 |bl (x:Bool):TyOf K H (.bl x) (.type "bool")
 |int (i:Int):TyOf K H (.int i) (.type "int")
 |str (x:Str):TyOf K H (.str x) (.type "str")
 |flt (x:UInt64):TyOf K H (.flt x) (.type "float")
 |lst {a:Addr}{xs:List V} (e:H a=some (.lst xs)):TyOf K H (.ref a) (.type "list")
 |frz {a:Addr}{o:Obj}{xs:List V} (e:H a=some (.frz o (.lst xs))):TyOf K H (.ref a) (.type "list")
 |tup {a:Addr}{xs:List V} (e:H a=some (.tup xs)):TyOf K H (.ref a) (.type "tuple")
 |dK {a:Addr}{kvs:List (Key×V)} (e:H a=some (.dK kvs)):TyOf K H (.ref a) (.type "dict")
 |dT {a:Addr}{kvs:List (List Key×V)} (e:H a=some (.dT kvs)):TyOf K H (.ref a) (.type "dict")
 |ins {a C dx:Addr}{fs:List (Str×V)} (e:H a=some (.ins C dx fs)) (cl:Cls K C) (ha:W.findIn K (.ref C) "__class__"=some (some (.builtin "object.__class__")))
   (hn:W.specialIn K (.builtin "object.__class__") "__get__"=some (some (.builtin "getset_descriptor.__get__"))) (htk:W.takesIn K (.builtin "object.__class__")=some true)
   (hm:W.mroIn K C (.type "object")=some true):TyOf K H (.ref a) (.ref C)
theorem lB_ {x:V}{u t:Value} (I:Inv X pins σ H s) (rx:be_ x u) (ty:TyOf X.K H x t) (e:W.kitOne X.K t c=some b) (h:∀tk,Q (.bool b) {s with toks:=tk}):
  wpAny (model X.prog X.w) A (call (.builtin "isinstance") [u,c]) Q E s:=by
 cases ty with
 |non=>cases (show u=Value.none from rx);exact BO W.kitx_none I.kIn True.intro e (fun z=>nomatch z) h
 |bl y=>cases (show u=Value.bool y from rx);exact BO W.kitx_bool I.kIn True.intro e (fun z=>nomatch z) h
 |int i=>obtain⟨t,q⟩:=(show∃t,u=Value.int i t from rx);cases q;exact BO W.kitx_int I.kIn True.intro e (fun z=>nomatch z) h
 |str y=>obtain⟨t,q⟩:=(show∃t,u=Value.str y t from rx);cases q;exact BO W.kitx_str I.kIn True.intro e (fun z=>nomatch z) h
 |flt y=>obtain⟨t,q⟩:=(show∃t,u=Value.float y t from rx);cases q;exact BO W.kitx_float I.kIn True.intro e (fun z=>nomatch z) h
 | @lst a xs ea=>
  cases (show u=Value.ref a from rx);obtain⟨_,_,n,_,h1⟩:=(show aQ_ X.prog X.w H s.heap a (.lst xs) from I.hok a _ ea);exact BO W.kitx_list I.kIn ⟨_,h1,rfl⟩ e (fun z=>nomatch z) h
 | @frz a ob xs ea=>
  cases (show u=Value.ref a from rx);obtain⟨_,_,_,n,_,h1⟩:=(show aQ_ X.prog X.w H s.heap a (.frz ob (.lst xs)) from I.hok a _ ea);exact BO W.kitx_list I.kIn ⟨_,h1,rfl⟩ e (fun z=>nomatch z) h
 | @tup a xs ea=>
  cases (show u=Value.ref a from rx);obtain⟨_,_,_,p⟩:=(show aQ_ X.prog X.w H s.heap a (.tup xs) from I.hok a _ ea);obtain⟨o,h1,h2,_⟩:=p;exact BO W.kitx_tuple I.kIn ⟨o,h1,h2⟩ e (fun z=>nomatch z) h
 | @dK a kvs ea=>
  cases (show u=Value.ref a from rx);obtain⟨_,_,vs,_,p⟩:=(show aQ_ X.prog X.w H s.heap a (.dK kvs) from I.hok a _ ea);obtain⟨o,es,ep,h1,h2,_⟩:=p;exact BO W.kitx_dict I.kIn ⟨o,h1,h2.1⟩ e (fun z=>nomatch z) h
 | @dT a kvs ea=>
  cases (show u=Value.ref a from rx);obtain⟨_,_,xs,_,o,es,ep,h1,h2,_⟩:=(show aQ_ X.prog X.w H s.heap a (.dT kvs) from I.hok a _ ea);exact BO W.kitx_dict I.kIn ⟨o,h1,h2.1⟩ e (fun z=>nomatch z) h
 | @ins a C dx fs ea cl ha hn htk hm=>
  cases (show u=Value.ref a from rx);obtain⟨mA,O,_⟩:=oV_ I.hok ea;obtain⟨od,J,_⟩:=O.look;exact BO (W.kitx_own (cl.get _) cl.hd ha hn htk hm) I.kIn J e (fun z=>nomatch z) h
end
end L2
namespace L2
open PySem PySem.Spec PyProof.Rows
structure Room (k:Nat) (A:Around):Prop where
 hd:A.handled=none
 dp:A.depth+3*k+5<recursionLimit
 un:A.units+16*k+200<cLine
theorem Room.mono {j k:Nat}{A:Around} (r:Room k A) (h:j<=k):Room j A:=⟨r.hd,by have:=r.dp;lia,by have:=r.un;lia⟩
theorem Room.deeper {k:Nat}{A:Around} (r:Room (k+1) A) (env:Env):Room k (A.deeper env):=
 ⟨r.hd,by have:=r.dp;show A.depth+1+3*k+5<_;lia,by have:=r.un;show A.units+3+16*k+200<_;lia⟩
theorem Room.depth {k:Nat}{A:Around} (r:Room k A):A.depth<recursionLimit:=by have:=r.dp;lia
theorem Room.units {k:Nat}{A:Around} (r:Room k A):A.units+64<cLine:=by have:=r.un;lia
def se_:TA:=fun _ H Q=>Q [] H
def pQ_ (ta:TE) (tr:TA):TA:=fun σ H Q=>ta σ H fun x H1=>tr σ H1 fun xs H2=>Q (x::xs) H2
section
variable {X:Cx}{e:Expr}{es:List Expr}{te:TE}{t:TA}{pos:Pos}
theorem ad_:PA X [] se_:=fun _ _ _ _ H Q I h=>Calls.spliced_nil ⟨[],H,I, .nil,h⟩
theorem aa_ (ha:PE X e te) (hr:PA X es t) (hs:starEach (e::es) X.env=(false,eval e X.env)::starEach es X.env:=by rfl):PA X (e::es) (pQ_ te t):=by
 intro pos pins s σ H Q I h;rw [hs];show wpAny _ _ (spliced ((false,eval e X.env)::backTo pos (starEach es X.env))) _ _ s;refine Cf (thn (ha pins s σ H _ I h) fun u s1 ⟨x,H1,I1,r1,q1⟩=> ?_);exact thn (hr pos pins s1 σ H1 _ I1 q1) fun us s2 ⟨xs,H2,I2,r2,q2⟩=>⟨x::xs,H2,I2, .cons r1 r2,q2⟩
def su_ (t:TA):TE:=fun σ H Q=>t σ H fun xs H1=>xs.length<=sizeLine/\∀p,H1 p=none->Q (.ref p) (upd H1 p (.tup xs))
def sz_ (t:TA):TE:=fun σ H Q=>t σ H fun xs H1=>xs.length<=sizeLine/\∀p,H1 p=none->Q (.ref p) (upd H1 p (.lst xs))
theorem cX_ {x1} (h:PA X es t):PE X (.Tuple es x1 pos) (su_ t):=by
 intro pins s σ H Q I hq;refine wpAny_Tuple_spliced (thn (h pos pins s σ H _ I hq) fun us s1 ⟨xs,H1,I1,r,z,q⟩=>⟨by rw [<-r.length];exact z, ?_⟩);have hf:H1 s1.heap.objs.size=none:=I1.hok.fresh (A5 _);refine⟨.ref s1.heap.objs.size,upd H1 s1.heap.objs.size (.tup xs),I1.laid (t':=s1.toks) (fun b u e=>AB _ e) (A5 _) ?_,rfl,q _ hf⟩;exact⟨z,us,r,⟨_,AH _ rfl,rfl,_,rfl⟩⟩
theorem cY_ (h:PA X es t):PE X (.List es pos) (sz_ t):=by
 intro pins s σ H Q I hq;refine wpAny_List_spliced (thn (h pos pins s σ H _ I hq) fun us s1 ⟨xs,H1,I1,r,z,q⟩=>⟨by rw [<-r.length];exact z, ?_⟩);have hf:H1 s1.heap.objs.size=none:=I1.hok.fresh (A5 _);refine⟨.ref s1.heap.objs.size,upd H1 s1.heap.objs.size (.lst xs),I1.laid (t':=s1.toks) (fun b u e=>AB _ e) (A5 _) ?_,rfl,q _ hf⟩;exact⟨z,us,0,r,AH _ rfl⟩
end
abbrev Sp:=List V->Hp->VK->XK->Prop
abbrev CXT:=List Env->Hp->Shared->XK->Value->Shared->Prop
structure Env0 (P:Program) (w:World) (K:W.Frag) (mg:Str->Option Value) (base:Heap) (A:Around) (outer:List Env) (s:Shared) (H:Hp):Prop where
 frames:A.frames=some outer
 mod:Mod K mg base
 bs:∀b o,base.get? b=some o->s.heap.get? b=some o/\H b=none
 bsz:base.objs.size<=s.heap.objs.size
 funs:s.heap.FunFrames base outer
 frf:∀b∈frs outer,H b=none
 hok:HOk P w H s.heap
 bare:AllBare s.gens
def CE (outer:List Env) (P:Program) (w:World) (H:Hp) (s:Shared) (Q:VK) (u:Value) (s':Shared):Prop:=
 ∃v H',s'.os=s.os/\AllBare s'.gens/\Un (frs outer) [] H H' s.heap s'.heap/\HOk P w H' s'.heap/\be_ v u/\Q v H'
def CR (CX:CXT) (outer:List Env) (P:Program) (w:World) (H:Hp) (s:Shared) (Q:VK) (E:XK) (r:Result) (s':Shared):Prop:=
 match r with
 | .ok (.ret u)=>CE outer P w H s Q u s'
 | .ok _=>False
 | .error e=>CX outer H s E e s'
structure FnOk (P:Program) (w:World) (K:W.Frag) (mg:Str->Option Value) (base:Heap) (CX:CXT) (k:Nat) (f:Addr) (fd:FuncData) (ps:List Str) (sp:Sp):Prop where
 len:∀vs H Q E,sp vs H Q E->vs.length=ps.length
 run:∀(A:Around) (outer:List Env) (s:Shared) (H:Hp) (args:Args) (us:List Value) (vs:List V) (Q:VK) (E:XK),Room k A->Env0 P w K mg base A outer s H->BindsTo s fd args (ps.zip us)->aV_ vs us->sp vs H Q E->
  codeAny (model P w) A (.call (.ref f) args) (CR CX outer P w H s Q E) s
section
variable {X:Cx}{pins:List (Addr×Obj)}{σ:St}{H:Hp}{s s':Shared}
theorem Inv.env0 (I:Inv X pins σ H s):Env0 X.prog X.w X.K X.mg X.base X.A X.stack s H:=
 ⟨I.ok.frames,I.ok.mod,I.bs,Ai I.ok.bsz I.sz,I.stack,I.stkFree,I.hok,I.bare⟩
theorem Inv.after {Q:VK}{u:Value} (I:Inv X pins σ H s) (h:CE X.stack X.prog X.w H s Q u s'):EP X pins σ Q u s':=by
 obtain⟨v,H',os,bare,un,hok,r,q⟩:=h;obtain⟨hh,g,d,t,os'⟩:=s';obtain rfl:os'=s.os:=os;exact⟨v,H',I.call (h':=hh) (g':=g) (d':=d) (t':=t) (ch:=[]) un hok bare (fun b z=>absurd z (by simp)),r,q⟩
end
def rk_ (sp:Sp) (dvs:List V) (E:XK) (t:TA):TE:=fun σ H Q=>t σ H fun vs H1=>sp (vs++dvs) H1 Q E
def aN_ (K:W.Frag) (fd:FuncData) (ps:List Str) (ds:List Value):Prop:=
 ∀(s:Shared) (us:List Value),K.In s.heap->(us++ds).length=ps.length->BindsTo s fd ⟨us,[]⟩ (ps.zip (us++ds))
theorem aN_.all {K:W.Frag}{fd:FuncData}{ps:List Str} (h:∀us:List Value,us.length=ps.length->bindArgs fd ⟨us,[]⟩=pure (ps.zip us)):aN_ K fd ps []:=fun s us _ hl=>by
 rw [C1] at hl⊢;exact .of_eq (h us hl)
def d3_ (CX:CXT) (X:Cx) (E:XK):Prop:=∀(pins:List (Addr×Obj)) (σ:St) (H:Hp) (s:Shared) (e:Value) (s':Shared),Inv X pins σ H s->CX X.stack H s E e s'->X.xe e s'
section
variable {X:Cx}{CX:CXT}{k:Nat}{f C:Addr}{fd:FuncData}{ps:List Str}{sp:Sp}{dvs:List V}{ds:List Value}{E:XK}{x m:Str}{p pos apos:Pos}{e o:Expr}{es:List Expr}{ta:TE}{t:TA}
theorem p4_ {pins:List (Addr×Obj)}{σ:St}{H:Hp}{s:Shared}{Q:VK}{us:List Value}{vs:List V} (F:FnOk X.prog X.w X.K X.mg X.base CX k f fd ps sp) (hr:Room k X.A) (hb:aN_ X.K fd ps ds) (hd:aV_ dvs ds) (hx:d3_ CX X E)
  (I:Inv X pins σ H s) (r:aV_ vs us) (h:sp (vs++dvs) H Q E):wpAny (model X.prog X.w) X.A (call (.ref f) us) (EP X pins σ Q) X.xe s:=by
 have r2:aV_ (vs++dvs) (us++ds):=r.append hd;have hl:(us++ds).length=ps.length:=by rw [<-r2.length];exact F.len _ _ _ _ h
 refine wpAny_call (codeAny_mono (F.run X.A X.stack s H ⟨us,[]⟩ (us++ds) (vs++dvs) Q E hr I.env0 (hb s us I.kIn hl) r2 h) fun r s' hq=> ?_);cases r with
 |error e=>exact hx pins σ H s e s' I hq
 |ok fl=>
  cases fl with
  |ret u=>exact I.after hq
  |next=>exact False.elim hq
  |brk=>exact False.elim hq
  |cont=>exact False.elim hq
theorem ah_ (F:FnOk X.prog X.w X.K X.mg X.base CX k f fd ps sp) (hr:Room k X.A) (hg:Gl X x) (hm:X.mg x=some (.ref f)) (hk:W.keepIn X.K (.ref f)=true) (hb:aN_ X.K fd ps ds) (hd:aV_ dvs ds) (hx:d3_ CX X E)
  (ha:PA X (e::es) t) (hdb:(x==("__debug__":Str))=false:=by decide) (he:starEach (e::es) X.env=(false,eval e X.env)::starEach es X.env:=by rfl) (hpl:(backTo pos (starEach es X.env)).any (·.1)=false:=by rfl):
  PE X (.Call (.Name x p) (e::es) [] pos) (rk_ sp dvs E t):=by
 intro pins s σ H Q I h;refine BV (gl_ I hg hm ?_ hdb);refine W.callWith_K (h₀:=X.base) I.ok.mod.kin hk (thn (ha pos pins s σ H _ I h) fun us s1 ⟨vs,H1,I1,r,q⟩=>⟨I1.kIn, ?_⟩) he hpl;exact p4_ F hr hb hd hx I1 r q
end
section
variable {X:Cx}{CX:CXT}{k:Nat}{f C:Addr}{fd:FuncData}{ps ks:List Str}{sp:Sp}{E:XK}{x m:Str}{p pos apos kpos:Pos}{e o:Expr}{es:List Expr}{kws:List Keyword}{te ta:TE}{t tk:TA}{nm:Option Str}
variable {g:List Value->List Value->List Value}{gV:List V->List V->List V}
end
structure FnScope (N P:List Str) (sc:Scope):Prop where
 kind:sc.kind= .function
 co:sc.isCoroutine=false
 gen:sc.isGenerator=false
 nd:N.Nodup
 pre:N.take P.length=P
 par:∀x∈P,sc.names.lookup x=some .local\/sc.names.lookup x=some .cell
 nofree:∀y∈sc.names,y.2≠ .free
theorem hz_ {kindOf:Str->Option NameKind}{x:Str}:∀{binds:List (Str×Value)}{m:Str->Option Value},(∀v,(x,v)∉binds)->bindL kindOf binds m x=m x
 |[],_,_=>rfl
 |(n,v)::r,m,h=>by
  unfold bindL;rw [hz_ fun w hw=>h w (At _ hw)];split
  .have:x≠n:=by rintro rfl;exact h v BA
   simp [this]
  .rfl
theorem hB_ {kindOf:Str->Option NameKind}{x:Str}:∀{binds:List (Str×Value)}{m:Str->Option Value},(∀v,(x,v)∉binds)->bindC kindOf binds m x=m x
 |[],_,_=>rfl
 |(n,v)::r,m,h=>by
  unfold bindC;rw [hB_ fun w hw=>h w (At _ hw)];split
  .rfl
  .have:x≠n:=by rintro rfl;exact h v BA
   simp [this]
theorem hA_ {kindOf:Str->Option NameKind}{x:Str}{v:Value}:∀{P:List Str}{vs:List Value}{i:Nat}{m:Str->Option Value},P.Nodup->P[i]? =some x->vs[i]? =some v->kindOf x=some .local->
  bindL kindOf (P.zip vs) m x=some v
 |[],_,_,_,_,h,_,_=>by simp at h
 |_::_,[],_,_,_,_,h,_=>by simp at h
 |p::P,w::vs,0,m,nd,h1,h2,hk=>by
  simp at h1 h2;subst h1;subst h2;show bindL kindOf ((p,w)::P.zip vs) m p=_;unfold bindL;rw [hz_ fun v hv=>(Ba.mp nd).1 (List.of_mem_zip hv).1,A9 hk];simp
 |p::P,w::vs,i+1,m,nd,h1,h2,hk=>by
  show bindL kindOf ((p,w)::P.zip vs) m x=_;unfold bindL;exact hA_ (i:=i) (Ba.mp nd).2 (by simpa using h1) (by simpa using h2) hk
theorem hC_ {kindOf:Str->Option NameKind}{x:Str}{v:Value}:∀{P:List Str}{vs:List Value}{i:Nat}{m:Str->Option Value},P.Nodup->P[i]? =some x->vs[i]? =some v->kindOf x≠some .local->
  bindC kindOf (P.zip vs) m x=some v
 |[],_,_,_,_,h,_,_=>by simp at h
 |_::_,[],_,_,_,_,h,_=>by simp at h
 |p::P,w::vs,0,m,nd,h1,h2,hk=>by
  simp at h1 h2;subst h1;subst h2;show bindC kindOf ((p,w)::P.zip vs) m p=_;unfold bindC;rw [hB_ fun v hv=>(Ba.mp nd).1 (List.of_mem_zip hv).1,A7 hk];simp
 |p::P,w::vs,i+1,m,nd,h1,h2,hk=>by
  show bindC kindOf ((p,w)::P.zip vs) m x=_;unfold bindC;exact hC_ (i:=i) (Ba.mp nd).2 (by simpa using h1) (by simpa using h2) hk
def start (N:List Str) (vs:List V):St:=vs.map some++List.replicate (N.length-vs.length) none
def j8_ (CX:CXT) (P:Program) (w:World) (K:W.Frag) (mg:Str->Option Value) (base:Heap) (N:List Str) (qual:Str) (scope:Scope) (f:Addr) (cd:Value) (A:Around) (outer:List Env) (s:Shared) (H:Hp) (E:XK):Cx where
 prog:=P
 w:=w
 K:=K
 mg:=mg
 base:=base
 A:=A.deeper (envOfC qual scope s.heap.objs.size f cd)
 N:=N
 s₀:=s
 H₀:=H
 env:=envOfC qual scope s.heap.objs.size f cd
 outer:=outer
 stack:=envOfC qual scope s.heap.objs.size f cd::outer
 ex:=[]
 calm:=true
 fn:=fun _=>true
 pn:=[]
 xe:=fun e s'=>wpAny (model P w) (A.deeper (envOfC qual scope s.heap.objs.size f cd)) (leaving (envOfC qual scope s.heap.objs.size f cd) e) (fun _ s''=>CX outer H s E e s'') (fun e' s''=>CX outer H s E e' s'') s'
theorem jv_ {sc:Scope}{n:Nat}{x:Str} (h:sc.names.lookup x=some .cell):∃c,(cellsFrom n sc.names []).lookup x=some c:=by
 have q:=W.cellsFrom_some sc.names n [] (.inl h);exact Option.isSome_iff_exists.mp q
theorem lD_ {CX:CXT}{P:Program}{w:World}{K:W.Frag}{mg:Str->Option Value}{base:Heap}{N ps:List Str}{qual:Str}{scope:Scope}{f:Addr}{cd:Value}{A:Around}{outer:List Env}{s s1:Shared}{H:Hp}{E:XK}{us:List Value}{vs:List V}
  (S:FnScope N ps scope) (hd:A.handled=none) (e0:Env0 P w K mg base A outer s H) (hl:vs.length=ps.length) (r:aV_ vs us)
  (x:InCallC s s.heap.objs.size (bindL (envOfC qual scope s.heap.objs.size f cd).kindOf (ps.zip us) fun _=>none) (cellsFrom (s.heap.objs.size+1) scope.names []) (bindC (envOfC qual scope s.heap.objs.size f cd).kindOf (ps.zip us) fun _=>none) s1):
  Inv (j8_ CX P w K mg base N qual scope f cd A outer s H E) [] (start N vs) H s1:=by
 have hpl:ps.length<=N.length:=by have:=BW List.length S.pre;rw [Af] at this;lia
 obtain⟨h1,tk,rfl,hk⟩:=x.done;have noA:∀b:Addr,b∉(j8_ CX P w K mg base N qual scope f cd A outer s H E).ex:=fun b z=>absurd (show b∈([]:List Addr) from z) (by simp);refine⟨⟨e0.mod,S.kind,rfl,rfl,A5 _,fun y z c h1 h2=> ?_,fun y hy=> ?_,fun y c _ h=> ?_,fun _=>hd,Around.frames_deeper e0.frames, .inr ⟨rfl,rfl⟩,fun b z=>absurd z (noA b),e0.bs,e0.bsz,fun b _ _=>noA b,fun b z=>absurd z (noA b),e0.funs,e0.frf⟩,
  rfl,e0.bare,Un.kept hk,⟨_,x.toInCall.ns,fun i y v h1 h2 h3=> ?_⟩,fun y c h=>⟨_,x.cell y c h⟩,e0.hok.fresh (A5 _),fun y c h=> ?_,fun p hp=>absurd (show p∈([]:List (Addr×Obj)) from hp) (by simp),e0.hok.kept hk, ?_⟩
 .exact name_of_addr x.apart (Bj h1) (Bj h2)
 .have hy:scope.names.lookup y=some .cell\/scope.names.lookup y=some .free:=hy;rcases hy with hy|hy
  .exact jv_ hy
  .exact absurd rfl (S.nofree _ (Bj hy))
 .exact Az (x.above y c (Bj h))
 .have hi:i<vs.length:=by
   unfold start at h2;by_cases hi:i<vs.length
   .exact hi
   .rw [D5 (by simpa using hi)] at h2;rw [List.getElem?_replicate] at h2;split at h2<;>cases h2
  have ha:vs[i]? =some v:=by
   unfold start at h2;rw [List.getElem?_append_left (by simpa using hi),A6] at h2;cases e:vs[i]? with
   |none=>rw [e] at h2;cases h2
   |some a=>rw [e] at h2;cases h2;rfl
  obtain⟨u,hu,rv⟩:=r.get ha;have hp:ps[i]? =some y:=by
   rw [<-S.pre,List.getElem?_take_of_lt (by lia)];exact h1
  have ndP:ps.Nodup:=by rw [<-S.pre];exact S.nd.sublist (List.take_sublist _ _)
  refine⟨u,rv, ?_⟩;rcases S.par y (AX hp) with k|k
  .exact .inl ⟨k,hA_ ndP hp hu k⟩
  .obtain⟨c,e⟩:=jv_ (n:=s.heap.objs.size+1) k;refine .inr ⟨.inl k,c,e, ?_⟩;have q:=x.cell y c e;rw [hC_ ndP hp hu (by show scope.names.lookup y≠_;rw [k];decide)] at q;exact q
 .exact e0.hok.fresh (Az (x.above y c (Bj h)))
 .unfold start;show _=N.length;rw [AO,A2,Am];lia
theorem qK_ {CX:CXT}{P:Program}{w:World}{K:W.Frag}{mg:Str->Option Value}{base:Heap}{k:Nat}{f:Addr}{name qual:Str}{params:Arguments}{body:List Stmt}{scope:Scope}{dV kV doc pm cdv ct oc:Value}{an od:Option Addr}
  {osl:Array (Option Value)}{N ps:List Str}{sp:Sp} (lk:K.lookup f=some ⟨oc,od, .func (W.fnOf name qual params body scope dV kV doc pm an cdv ct),osl⟩) (hcd:W.codeIn K cdv qual=true) (S:FnScope N ps scope)
  (len:∀vs H Q E,sp vs H Q E->vs.length=ps.length)
  (hbody:∀(A:Around) (outer:List Env) (s:Shared) (H:Hp) (vs:List V) (Q:VK) (E:XK),Room k (A.deeper (envOfC qual scope s.heap.objs.size f cdv))->sp vs H Q E->
   ∃t,PSs (j8_ CX P w K mg base N qual scope f cdv A outer s H E) body t/\t {nx:=fun _ H'=>Q .non H',rt:=Q} (start N vs) H):
  FnOk P w K mg base CX (k+1) f (W.fnOf name qual params body scope dV kV doc pm an cdv ct) ps sp:=by
 refine⟨len,fun A outer s H args us vs Q E hr e0 hb r hsp=> ?_⟩;have hl:=len _ _ _ _ hsp;have KX:K.In s.heap:=e0.mod.kin.keeps fun b o e=>(e0.bs b o e).1;have lim:s.heap.NoLimit:=e0.mod.nolimit.keeps fun b o e=>(e0.bs b o e).1;have hkind:∀y∈ps.zip us,scope.names.lookup y.1=some .local\/(scope.names.lookup y.1=some .cell/\((cellsFrom (s.heap.objs.size+1) scope.names []).lookup y.1).isSome=true):=fun⟨n,v⟩ hy=>by
  rcases S.par n (List.of_mem_zip hy).1 with q|q
  .exact .inl q
  .exact .inr ⟨q,W.cellsFrom_some _ _ _ (.inl q)⟩
 refine codeAny_call_function hr.depth (KX _ _ lk) rfl S.co S.gen rfl (W.codeRec_of KX hcd) (hb _ _ _ _ ?_);refine wpAny_newFunctionEnv_cells S.kind hkind fun env he s1 x=> ?_;subst he;refine⟨lim.keeps x.toInCall.keep,codeAny_func ?_⟩;obtain⟨t,ht,hq⟩:=hbody A outer s H vs Q E (hr.deeper _) hsp;have I:Inv (j8_ CX P w K mg base N qual scope f cdv A outer s H E) [] (start N vs) H s1:=lD_ S hr.hd e0 hl r x;refine BH (ht [] s1 (start N vs) H _ I hq) (fun fl s' hs=> ?_) fun e s' hs=>hs;have fin:∀{σ':St}{H':Hp}{v:V}{u:Value},Inv (j8_ CX P w K mg base N qual scope f cdv A outer s H E) [] σ' H' s'->be_ v u->Q v H'->CE outer P w H s Q u s':=
  fun{σ' H' v u} J rv q=>⟨v,H',J.os,J.bare,J.base,J.hok,rv,q⟩
 cases fl with
 |ret u=>
  obtain⟨v,σ',H',J,rv,q⟩:=hs;exact fin J rv q
 |next=>
  obtain⟨σ',H',J,q⟩:=hs;exact fin (v:=V.non) (u:=Value.none) J rfl q
 |brk=>
  obtain⟨_,_,_,q⟩:=hs;exact False.elim q
 |cont=>
  obtain⟨_,_,_,q⟩:=hs;exact False.elim q
end L2
namespace L2
open PySem PySem.Spec PyProof.Rows
section
variable {X:Cx}{x:Str}{p pos:Pos}{e:Expr}{es:List Expr}{t:TA}{id T:String}{r:List V->Hp->VK->Prop}
def tCB (r:List V->Hp->VK->Prop) (t:TA):TE:=fun σ H Q=>t σ H fun vs H1=>r vs H1 Q
theorem aB_ (hc:ca_ X (.builtin id) r) (hg:Gl X x) (hm:X.mg x=none) (hv:bootBuiltins x=some (.builtin id)) (ha:PA X (e::es) t) (hn:x≠"__name__":=by decide) (hdb:(x==("__debug__":Str))=false:=by decide)
  (he:starEach (e::es) X.env=(false,eval e X.env)::starEach es X.env:=by rfl) (hpl:(backTo pos (starEach es X.env)).any (·.1)=false:=by rfl):PE X (.Call (.Name x p) (e::es) [] pos) (tCB r t):=by
 intro pins s σ H Q I h;refine BV (cI_ I hg hm hv ?_ hn hdb);exact Ci (thn (ha pos pins s σ H _ I h) fun us s1 ⟨vs,H1,I1,r1,q1⟩=>hc pins s1 σ H1 vs us Q I1 r1 q1) he hpl
theorem ez_ (hc:ca_ X (.type T) r) (hg:Gl X x) (hm:X.mg x=none) (hv:bootBuiltins x=some (.type T)) (ha:PA X (e::es) t) (hn:x≠"__name__":=by decide) (hdb:(x==("__debug__":Str))=false:=by decide)
  (he:starEach (e::es) X.env=(false,eval e X.env)::starEach es X.env:=by rfl) (hpl:(backTo pos (starEach es X.env)).any (·.1)=false:=by rfl):PE X (.Call (.Name x p) (e::es) [] pos) (tCB r t):=by
 intro pins s σ H Q I h;refine BV (cI_ I hg hm hv ?_ hn hdb);exact BG (thn (ha pos pins s σ H _ I h) fun us s1 ⟨vs,H1,I1,r1,q1⟩=>hc pins s1 σ H1 vs us Q I1 r1 q1) he hpl
end
end L2
namespace HT
open PySem PyProof.Rows
section
open PySem.SeqAt
open PySem.AutoSeq1 (wpAny_loadPart')
open PySem.MeetsSeq PySem.MeetsSeq2 PySem.MeetsSeq3
end
section
variable {prog:Program}{w:World}{A:Around}{E:Value->Shared->Prop}{s:Shared}
theorem cat_tup {t b:Addr}{vs ws:List Value}{Q:Value->Shared->Prop} (ht:IsTup s.heap t vs.toArray) (hb:IsTup s.heap b ws.toArray) (hv:vs≠[])
  (h1:ws=[]->Q (.ref t) s) (h2:ws≠[]->Q (.ref s.heap.objs.size) {s with heap:=s.heap.push {cls:= .type "tuple",data:= .seq (vs++ws).toArray}})
  (hsz:vs.length+ws.length<=sizeLine):wpAny (model prog w) A (binaryOp .Add (.ref t) (.ref b)) Q E s:=by
 obtain⟨⟨cls,dd,data,sl⟩,ho,hc,n,hd⟩:=id ht;obtain⟨⟨cls2,dd2,data2,sl2⟩,ho2,hc2,n2,hd2⟩:=id hb;simp only at hc hd hc2 hd2;subst hc hd hc2 hd2;have e:vs.toArray++ws.toArray=(vs++ws).toArray:=by simp
 by_cases hw:ws=[]
 .exact concat_meets ⟨_,ho,rfl⟩ ⟨_,ho2,rfl⟩ noFill_tuple_add seq_tuple_add PySem.F.slot_tuple_add PySem.F.entry_tuple_add (PySem.F.args_tuple_add_2 _ _)
   (tuple_addW1 t b vs.toArray ws.toArray n n2 dd dd2 sl sl2 (by simpa using hv) (by simp [hw])) ⟨ho,ho2,h1 hw⟩
 .refine concat_meets ⟨_,ho,rfl⟩ ⟨_,ho2,rfl⟩ noFill_tuple_add seq_tuple_add PySem.F.slot_tuple_add PySem.F.entry_tuple_add (PySem.F.args_tuple_add_2 _ _)
   (tuple_addW2 t b vs.toArray ws.toArray n n2 dd dd2 sl sl2 (by simpa using hv) (by simpa using hw) (by rw [A8,A8];exact hsz)) ⟨ho,ho2, ?_⟩
  rw [e];exact h2 hw
def sIx (n d:Nat):Option Int->Nat
 |none=>d
 |some v=>if v<0 then(v+(n:Int)).toNat else min v.toNat n
theorem sIx_none (n d:Nat):sIx n d none=d:=rfl
theorem sIx_nat (n d k:Nat):sIx n d (some (k:Int))=min k n:=by
 show(if(k:Int)<0 then((k:Int)+(n:Int)).toNat else min (k:Int).toNat n)=min k n;rw [A7 (by lia),AU]
theorem p3_ (n d:Nat) (hd:d<=n) (o:Option Int):sIx n d o<=n:=by
 cases o with
 |none=>exact hd
 |some v=>
  show(if v<0 then(v+(n:Int)).toNat else min v.toNat n)<=n;by_cases hv:v<0
  .rw [A9 hv];lia
  .rw [A7 hv];exact Nat.min_le_right _ _
theorem lY_ (v:Int) (n d:Nat):(if v<0 then max (v+(n:Int)) 0 else min v (n:Int))=((sIx n d (some v):Nat):Int):=by
 show(if v<0 then max (v+(n:Int)) 0 else min v (n:Int))=(((if v<0 then(v+(n:Int)).toNat else min v.toNat n):Nat):Int);by_cases hv:v<0
 .simp only [A9 hv];lia
 .simp only [A7 hv];lia
theorem j4_ (lo hi:Option Int) (n:Nat):Builtin.Slice.sliceAdjust lo hi 1 (n:Int)=(((sIx n 0 lo:Nat):Int),((sIx n n hi:Nat):Int)):=by
 have h1:¬((1:Int)<0):=by lia
 unfold Builtin.Slice.sliceAdjust;simp only [h1,As];refine Prod.ext ?_ ?_
 .cases lo with
  |none=>rfl
  |some v=>exact lY_ v n 0
 .cases hi with
  |none=>rfl
  |some v=>exact lY_ v n n
theorem jM_ (i j:Nat):Builtin.Slice.slicePlaces (i:Int) (j:Int) 1=j-i:=by
 unfold Builtin.Slice.slicePlaces;have h1:(1:Int)>0:=by lia
 simp only [h1,CI,Int.ediv_one];split<;>lia
theorem fo_ {v:Value}{o:Option Int}{Q:Option Int->Shared->Prop} (p:IsPart v o) (h:Q o s):wpAny (model prog w) A (Builtin.Slice.slicePartIndex v) Q E s:=by
 cases p with
 |none=>exact slicePart_none h
 |int i t=>exact slicePart_int h
theorem cx_ {sl:Addr}{vl vu:Value}{lo hi:Option Int}{n:Nat}{Q:Int×Int×Nat->Shared->Prop} (hs:s.heap.IsSliceOf sl vl vu .none) (pl:IsPart vl lo) (pu:IsPart vu hi)
  (h:Q (((sIx n 0 lo:Nat):Int),1,sIx n n hi-sIx n 0 lo) s):wpAny (model prog w) A (Builtin.Slice.sliceApplied (.ref sl) (pure (n:Int))) Q E s:=by
 obtain⟨os,hos,hcs,hds⟩:=id hs;unfold Builtin.Slice.sliceApplied Builtin.Slice.sliceFields;refine A0 (A0 (wpAny_field hos hds (x:=vl) rfl (A0 (wpAny_field hos hds (x:=vu) rfl (A0 (wpAny_field hos hds (x:= .none) rfl (A3 ?_)))))));refine A0 (slicePart_none ?_);show wpAny _ _ (if((1:Int)==0)=true then _ else _) _ _ s;rw [A7 (by decide)];refine A0 (fo_ pl (A0 (fo_ pu (A0 (A3 ?_)))));show wpAny _ _ (match Builtin.Slice.sliceAdjust lo hi 1 (n:Int) with|(lo,hi)=>pure (lo,(1:Int),Builtin.Slice.slicePlaces lo hi 1)) _ _ s;rw [j4_ lo hi n];show wpAny _ _ (pure (((sIx n 0 lo:Nat):Int),(1:Int),Builtin.Slice.slicePlaces ((sIx n 0 lo:Nat):Int) ((sIx n n hi:Nat):Int) 1)) _ _ s;rw [jM_];exact A3 h
theorem my_ (xs:Array Value) (i k:Nat):((List.range k).filterMap fun(m:Nat)=>xs[((i:Int)+(m:Int)*1).toNat]?).toArray=((xs.toList.drop i).take k).toArray:=by
 have e:(fun(m:Nat)=>xs[((i:Int)+(m:Int)*1).toNat]?)=fun m=>xs[i+m]? :=by
  funext m
  have:((i:Int)+(m:Int)*1).toNat=i+m:=by lia
  rw [this]
 rw [e];have:=pick_run xs i k;rw [List.filterMap_map] at this;have e2:((fun x=>xs[x]?)∘fun x=>i+x)=fun m=>xs[i+m]? :=rfl;rw [e2] at this;rw [this]
theorem getItem_tuple_cut {t sl:Addr}{items:Array Value}{vl vu:Value}{lo hi:Option Int}{Q:Value->Shared->Prop} (ht:IsTup s.heap t items) (hs:s.heap.IsSliceOf sl vl vu .none) (pl:IsPart vl lo) (pu:IsPart vu hi)
  (hw:¬(sIx items.size 0 lo=0/\sIx items.size items.size hi=items.size))
  (h:Q (.ref s.heap.objs.size) {s with heap:=s.heap.push {cls:= .type "tuple",data:= .seq ((items.toList.drop (sIx items.size 0 lo)).take (sIx items.size items.size hi-sIx items.size 0 lo)).toArray}})
  (hsz:items.size<=sizeLine):wpAny (model prog w) A (getItem (.ref t) (.ref sl)) Q E s:=by
 have htake:sizeOk (.seq ((items.toList.drop (sIx items.size 0 lo)).take (sIx items.size items.size hi-sIx items.size 0 lo)).toArray):=by
  show((items.toList.drop (sIx items.size 0 lo)).take (sIx items.size items.size hi-sIx items.size 0 lo)).toArray.size<=sizeLine;rw [A8,Af,List.length_drop,Ay];lia
 have hj:sIx items.size items.size hi<=items.size:=p3_ _ _ (A5 _) hi;obtain⟨os,hos,hcs,hds⟩:=id hs;have hTs:s.TypeIs (.ref sl) "slice":=⟨os,hos,hcs⟩;unfold getItem;try with_reducible refine An ?_
 first|refine A0 (A3 ?_)|skip
 refine A0 (wpAny_sequenceKey ht.typeIs (by decide) ?_);refine A0 (BK (name:=Str.ofString "__getitem__") ht.typeIs BI
  (Ar BI ht.typeIs entry_tuple_getitem ?_ (args_tuple_getitem _ _)))
 show wpAny _ _ (Builtin.Tuple.tupleItemsOf (.ref t)>>=_) _ _ s;refine A0 (tupleItemsOf_ ht ?_);refine A0 (D' hTs ?_);rw [A9 (by decide)];refine A0 (cx_ hs pl pu ?_);have hno:¬((((sIx items.size 0 lo:Nat):Int)==0&&(1:Int)==1&&(sIx items.size items.size hi-sIx items.size 0 lo)==items.size)=true):=by
  intro q;rw [AE,AE] at q;have q1:((sIx items.size 0 lo:Nat):Int)=0:=eq_of_beq q.1.1;have q2:sIx items.size items.size hi-sIx items.size 0 lo=items.size:=eq_of_beq q.2;exact hw ⟨by lia,by lia⟩
 show wpAny _ _ (if(((sIx items.size 0 lo:Nat):Int)==0&&(1:Int)==1&&(sIx items.size items.size hi-sIx items.size 0 lo)==items.size)=true then _ else _) _ _ s;rw [A7 hno,my_];first
  |exact A0 (m:=Builtin.Tuple.tupleExact _) (Aq (A3 ⟨_,rfl,A3 h⟩) htake)
  |exact A0 (m:=Builtin.Tuple.tupleExact _) (Aq (A0 (A3 (A3 ⟨_,rfl,A3 h⟩))) htake)
  |exact A0 (A0 (m:=Builtin.Tuple.tupleExact _) (Aq (A3 (A3 ⟨_,rfl,A3 h⟩)) htake))
  |exact A0 (A0 (m:=Builtin.Tuple.tupleExact _) (Aq (A3 ⟨_,rfl,A3 h⟩) htake))
end
end HT
namespace L2
open PySem PySem.Spec PyProof.Rows
abbrev TO:=St->Hp->(Option Int->Hp->Prop)->Prop
def PO (X:Cx) (e:Option Expr) (t:TO):Prop:=
 ∀(pins:List (Addr×Obj)) (s:Shared) (σ:St) (H:Hp) (Q:Option Int->Hp->Prop),Inv X pins σ H s->t σ H Q->
  wpAny (model X.prog X.w) X.A (evalPart e X.env) (fun u s'=>∃o H',Inv X pins σ H' s'/\IsPart u o/\Q o H') X.xe s
def ob_:TO:=fun _ H Q=>Q none H
def re_ (t:TE):TO:=fun σ H Q=>t σ H fun x H1=>∃i,x= .int i/\Q (some i) H1
theorem fC_ {ns:List Int}:∀{us:List Value},aV_ (ns.map V.int) us->IntsAre us ns:=by
 induction ns with
 |nil=>intro us r;rw [List.map_nil] at r;cases r;exact .nil
 |cons n ns ih=>
  intro us r;rw [AW] at r;cases r with
  |cons r1 r2=>
   obtain⟨t,e⟩:=r1;subst e;exact .cons n t (ih r2)
section
variable {X:Cx}{e:Expr}{te:TE}{lo hi:Option Expr}{tl th:TO}{pos p2:Pos}
theorem fZ_:PO X none ob_:=by
 intro pins s σ H Q I h;rw [evalPart_none];exact A3 ⟨none,H,I, .none,h⟩
theorem fY_ (h:PE X e te):PO X (some e) (re_ te):=by
 intro pins s σ H Q I hw;rw [evalPart_some];refine thn (h pins s σ H _ I hw) fun u s1 ⟨x,H1,I1,r1,q1⟩=> ?_;obtain⟨i,rfl,q⟩:=q1;obtain⟨t,rfl⟩:=r1;exact⟨some i,H1,I1, .int i t,q⟩
def SlR (X:Cx) (r:V->Option Int->Option Int->Hp->VK->Prop):Prop:=
 ∀(pins:List (Addr×Obj)) (s:Shared) (σ:St) (H:Hp) (x:V) (v vl vu:Value) (lo hi:Option Int) (sl:Addr) (Q:VK),Inv X pins σ H s->be_ x v->s.heap.IsSliceOf sl vl vu .none->IsPart vl lo->IsPart vu hi->r x lo hi H Q->
  ∃T id,typeLookup (.type T) "__getitem__"=pure (some (.builtin id))/\s.TypeIs v T/\wpAny (model X.prog X.w) X.A (getItem v (.ref sl)) (EP X pins σ Q) X.xe s
def tSl (r:V->Option Int->Option Int->Hp->VK->Prop) (te:TE) (tl th:TO):TE:=fun σ H Q=>te σ H fun x H1=>tl σ H1 fun l H2=>th σ H2 fun u H3=>r x l u H3 Q
theorem ec_ {r:V->Option Int->Option Int->Hp->VK->Prop} (hr:SlR X r) (he:PE X e te) (hl:PO X lo tl) (hu:PO X hi th):PE X (.Subscript e (.Slice lo hi none p2) pos) (tSl r te tl th):=by
 intro pins s σ H Q I h;refine Subscript_ (thn (he pins s σ H _ I h) fun v s1 ⟨x,H1,I1,r1,q1⟩=> ?_);refine wpAny_Slice (thn (hl pins s1 σ H1 _ I1 q1) fun vl s2 ⟨l,H2,I2,pl,q2⟩=>thn (hu pins s2 σ H2 _ I2 q2) fun vu s3 ⟨u,H3,I3,pu,q3⟩=> ?_);rw [evalPart_none];refine A3 ?_;have I4:Inv X pins σ H3 {s3 with heap:=s3.heap.push {cls:= .type "slice",data:= .fields #[vl,vu, .none]}}:=I3.kept (t':=s3.toks) fun b ob q=>AB _ q;obtain⟨T,id,hT,ht,hg⟩:=hr pins {s3 with heap:=s3.heap.push {cls:= .type "slice",data:= .fields #[vl,vu, .none]}} σ H3 x v vl vu l u s3.heap.objs.size Q I4 r1 (Heap.IsSliceOf.new ..) pl pu q3;show wpAny (model X.prog X.w) X.A (subscriptTail e (.Slice lo hi none p2) v (.ref s3.heap.objs.size)) (EP X pins σ Q) X.xe {s3 with heap:=s3.heap.push {cls:= .type "slice",data:= .fields #[vl,vu, .none]}};exact tail_any (ops:=[.ref s3.heap.objs.size,v]) ht hT hg (by with_unfolding_all rfl)
def hJ_ (xs:List V) (lo hi:Option Int):List V:=(xs.drop (HT.sIx xs.length 0 lo)).take (HT.sIx xs.length xs.length hi-HT.sIx xs.length 0 lo)
theorem e2_ (xs:List V) (lo hi:Option Int):(hJ_ xs lo hi).length<=xs.length:=by
 unfold hJ_;rw [Af,List.length_drop];lia
def sJ_ (K:W.Frag):V->Option Int->Option Int->Hp->VK->Prop:=fun x lo hi H Q=>∃a xs,x= .ref a/\SqT K H a xs/\
 ¬(HT.sIx xs.length 0 lo=0/\HT.sIx xs.length xs.length hi=xs.length)/\∀p,H p=none->Q (.ref p) (upd H p (.tup (hJ_ xs lo hi)))
theorem p0_:SlR X (sJ_ X.K):=by
 intro pins s σ H x v vl vu lo hi sl Q I rx hs pl pu h;obtain⟨a,xs,rfl,hx,hw,q⟩:=h;cases rx;obtain⟨its,r,ht,hz⟩:=I.tuple hx;have hlen:its.toArray.size=xs.length:=by rw [A8];exact r.length.symm
 refine⟨"tuple",_,BI.lookup,ht.typeIs, ?_⟩;refine HT.getItem_tuple_cut ht hs pl pu (by rw [hlen];exact hw) ?_ (by rw [hlen];exact hz);rw [hlen];refine⟨.ref s.heap.objs.size,_,I.laid (t':=s.toks) (o:= .tup (hJ_ xs lo hi)) (fun b ob q=>AB _ q) (A5 _) ?_,rfl,q _ (I.hok.fresh (A5 _))⟩;exact⟨Ai (e2_ xs lo hi) hz,_,(r.drop (HT.sIx xs.length 0 lo)).take (HT.sIx xs.length xs.length hi-HT.sIx xs.length 0 lo),IsTup.new _ _⟩
def rJ_ (K:W.Frag):R2:=fun x y H Q=>∃a b xs ys,x= .ref a/\y= .ref b/\SqT K H a xs/\SqT K H b ys/\xs≠[]/\xs.length+ys.length<=sizeLine/\
 (ys=[]->Q (.ref a) H)/\(ys≠[]->∀p,H p=none->Q (.ref p) (upd H p (.tup (xs++ys))))
theorem aV_.nil_iff {xs:List V}{us:List Value} (r:aV_ xs us):us=[]↔xs=[]:=by
 cases r with
 |nil=>simp
 |cons _ _=>simp
theorem oB_:OpR X (binaryOp .Add) (rJ_ X.K):=by
 intro pins s σ H x y v u Q I rx ry h;obtain⟨a,b,xs,ys,rfl,rfl,ha,hb,hx,hz,q1,q2⟩:=h;cases rx;cases ry;obtain⟨its,r1,p1,_⟩:=I.tuple ha;obtain⟨its2,r2,p2,_⟩:=I.tuple hb;refine HT.cat_tup p1 p2 (fun z=>hx (r1.nil_iff.mp z)) (fun z=>⟨.ref a,H,I,rfl,q1 (r2.nil_iff.mp z)⟩) (fun z=> ?_) (by rw [<-r1.length,<-r2.length];exact hz);refine⟨.ref s.heap.objs.size,_,I.laid (t':=s.toks) (o:= .tup (xs++ys)) (fun b ob q=>AB _ q) (A5 _) ?_,rfl,q2 (fun w=>z (r2.nil_iff.mpr w)) _ (I.hok.fresh (A5 _))⟩;exact⟨by rw [AO];exact hz,_,r1.append r2,IsTup.new _ _⟩
end
end L2
namespace L2
open PySem PySem.Spec PyProof.Rows
def ixN (n:Nat) (i:Int):Option Nat:=if 0<=i then(if i<n then some i.toNat else none) else if -(n:Int)<=i then some (i+n).toNat else none
def atI {α:Type} (xs:List α) (i:Int):Option α:=(ixN xs.length i).bind fun j=>xs[j]?
theorem ly_ {n:Nat}{i:Int}{j:Nat} (h:ixN n i=some j):seqIndex? i n=some j/\j<n/\-(n:Int)<=i/\i<n:=by
 unfold ixN at h;by_cases h0:0<=i
 .rw [A9 h0] at h;by_cases h1:i<n
  .rw [A9 h1] at h;have e:i.toNat=j:=Ap h;exact⟨by rw [seqIndex_of h0 h1,e],by lia,by lia,h1⟩
  .rw [A7 h1] at h;cases h
 .rw [A7 h0] at h;by_cases h1: -(n:Int)<=i
  .rw [A9 h1] at h;have e:(i+n).toNat=j:=Ap h;exact⟨by rw [seqIndex_neg (by lia) h1,e],by lia,h1,by lia⟩
  .rw [A7 h1] at h;cases h
theorem l6_ {α:Type}{xs:List α}{i:Int}{v:α} (h:atI xs i=some v):∃j,seqIndex? i xs.length=some j/\xs[j]? =some v/\j<xs.length/\-(xs.length:Int)<=i/\i<xs.length:=by
 unfold atI at h;cases e:ixN xs.length i with
 |none=>rw [e] at h;cases h
 |some j=>
  rw [e] at h;obtain⟨h1,h2,h3,h4⟩:=ly_ e;exact⟨j,h1,h,h2,h3,h4⟩
theorem l5_ {α:Type}{xs:List α}{j:Nat}{v:α} (h:xs[j]? =some v):atI xs (j:Int)=some v:=by
 have hj:j<xs.length:=(AC.mp h).1;have e:ixN xs.length (j:Int)=some j:=by
  unfold ixN;rw [A9 (by lia),A9 (by lia)];simp
 unfold atI;rw [e];exact h
theorem nf_ {α:Type} (xs:List α) (v:α):atI (xs++[v]) (-1)=some v:=by
 have hl:(xs++[v]).length=xs.length+1:=by simp
 have e:ixN (xs++[v]).length (-1)=some xs.length:=by
  unfold ixN;rw [hl,A7 (by decide),A9 (by lia)];congr 1
  lia
 unfold atI;rw [e];show(xs++[v])[xs.length]? =some v;simp
def pt_ (b:Expr):Prop:=∀o i,subscripted b false o i=operate [o,i] (getItem o i)
def IxR (X:Cx) (r:R2):Prop:=
 ∀(value slice:Expr) (pins:List (Addr×Obj)) (s:Shared) (σ:St) (H:Hp) (x y:V) (v u:Value) (Q:VK),Inv X pins σ H s->be_ x v->be_ y u->r x y H Q->
  subscripted slice false v u=operate [v,u] (getItem v u)->wpAny (model X.prog X.w) X.A (subscriptTail value slice v u) (EP X pins σ Q) X.xe s
def MtR (X:Cx) (id:String) (r:V->List V->Hp->VK->Prop):Prop:=
 ∀(pins:List (Addr×Obj)) (s:Shared) (σ:St) (H:Hp) (x:V) (xs:List V) (v:Value) (us:List Value) (Q:VK),Inv X pins σ H s->be_ x v->aV_ xs us->r x xs H Q->
  wpAny (model X.prog X.w) X.A (call (.builtin id) (v::us)) (EP X pins σ Q) X.xe s
section
variable {X:Cx}{a b:Expr}{ta tb:TE}{pos:Pos}
theorem aU_ {r:R2} (hr:IxR X r) (ha:PE X a ta) (hb:PE X b tb) (hs:pt_ b):PE X (.Subscript a b pos) (tOp r ta tb):=by
 intro pins s σ H Q I h;exact Subscript_ (r5_ ha hb I h fun v u s2 x y H2 I2 rx ry q=>hr a b pins s2 σ H2 x y v u Q I2 rx ry q (hs _ _))
def sO_ (K:W.Frag):R2:=fun x y H Q=>∃p xs i v,x= .ref p/\y= .int i/\SqL K H p xs/\atI xs i=some v/\Q v H
def sg_ (K:W.Frag):R2:=fun x y H Q=>∃p xs i v,x= .ref p/\y= .int i/\SqT K H p xs/\atI xs i=some v/\Q v H
theorem cg_:IxR X (sO_ X.K):=by
 intro value slice pins s σ H x y v u Q I rx ry h hs;obtain⟨p,xs,i,z,rfl,rfl,hq,he,q⟩:=h;cases rx;obtain⟨t,rfl⟩:=ry;obtain⟨its,r,pl,hz⟩:=I.list hq;obtain⟨j,h1,h2,h3,h4,h5⟩:=l6_ he;obtain⟨w,ew,rw'⟩:=r.get h2;have hl:=r.length;have hn:=fy_;have fin:EP X pins σ Q w s:=⟨z,H,I,rw',q⟩;by_cases h0:0<=i
 .have hj:i.toNat=j:=by
   rw [seqIndex_of h0 h5] at h1;exact Ap h1
  exact item_listR pl.isList h0 (by lia) (by rw [hj];simpa using ew) fin hs
 .have hj:(i+(its.toArray.size:Int)).toNat=j:=by
   rw [seqIndex_neg (by lia) h4] at h1;rw [A8,<-hl];exact Ap h1
  exact subscriptTail_builtinR (x:=w) pl.isList.typeIs slot_list_getitem.lookup
   (wpAny_getItem_list_neg (Q:=fun r s'=>r=w/\EP X pins σ Q r s') pl.isList (by lia) (by rw [A8]<;>lia) (by lia) (by rw [hj];simpa using ew) ⟨rfl,fin⟩) hs
theorem cp_:IxR X (sg_ X.K):=by
 intro value slice pins s σ H x y v u Q I rx ry h hs;obtain⟨p,xs,i,z,rfl,rfl,hq,he,q⟩:=h;cases rx;obtain⟨t,rfl⟩:=ry;obtain⟨its,r,pl,hz⟩:=I.tuple hq;obtain⟨j,h1,h2,h3,h4,h5⟩:=l6_ he;obtain⟨w,ew,rw'⟩:=r.get h2;have hl:=r.length;have hn:=fy_;have fin:EP X pins σ Q w s:=⟨z,H,I,rw',q⟩;exact subscriptTail_builtinR (x:=w) pl.typeIs slot_tuple_getitem.lookup
  (getItem_tuple (j:=j) (Q:=fun r s'=>r=w/\EP X pins σ Q r s') pl (by lia) (by lia) (by rw [A8,<-hl];exact h1) (by simpa using ew) ⟨rfl,fin⟩) hs
theorem jQ_ (its:List Value) (n j:Nat) (u:Value):Obj.mapSeq (·.setIfInBounds j u) {cls:= .type "list",data:= .seq its.toArray n}={cls:= .type "list",data:= .seq (its.set j u).toArray n}:=by
 simp [Obj.mapSeq]
theorem Inv.lst {pins:List (Addr×Obj)}{σ:St}{H:Hp}{s:Shared}{p:Addr}{xs:List V} (I:Inv X pins σ H s) (h:H p=some (.lst xs)):
  ∃(its:List Value) (n:Nat),aV_ xs its/\s.heap.get? p=some {cls:= .type "list",data:= .seq its.toArray n}/\xs.length<=sizeLine:=by
 obtain⟨z,its,n,r,e⟩:=I.hok p _ h;exact⟨its,n,r,e,z⟩
theorem Inv.lstUpd {pins:List (Addr×Obj)}{σ:St}{H:Hp}{s:Shared}{p:Addr}{xs ys:List V}{its its':List Value}{n n':Nat}{f:Obj->Obj} (I:Inv X pins σ H s) (h:H p=some (.lst xs))
  (ho:s.heap.get? p=some {cls:= .type "list",data:= .seq its.toArray n}) (hf:f {cls:= .type "list",data:= .seq its.toArray n}={cls:= .type "list",data:= .seq its'.toArray n'}) (r:aV_ ys its') (hz:ys.length<=sizeLine) (t:Nat):
  Inv X pins σ (upd H p (.lst ys)) {s with heap:=s.heap.update p f,toks:=t}:=by
 have e:(s.heap.update p f).get? p=some {cls:= .type "list",data:= .seq its'.toArray n'}:=by
  rw [CK f ho (by rw [hf]<;>rfl),hf]
 refine I.write (x:=p) (e:=p) (by rw [h];trivial) (.inl rfl) (fun b u hb q=>(Heap.get?_update_other _ _ (Ne.symm hb)).trans q) ⟨_,e⟩ ?_;exact⟨hz,its',n',r,e⟩
def rH_:V->V->V->Hp->(Hp->Prop)->Prop:=fun o i v H Q=>∃p xs k j,o= .ref p/\i= .int k/\H p=some (.lst xs)/\ixN xs.length k=some j/\Q (upd H p (.lst (xs.set j v)))
theorem d8_:r8_ X rH_:=by
 intro pins s σ H o i v ov iv u Q I ro ri rv h;obtain⟨p,xs,k,j,rfl,rfl,hp,hj,q⟩:=h;cases ro;obtain⟨t,rfl⟩:=ri;obtain⟨its,n,r,ho,hz⟩:=I.lst hp;obtain⟨h1,h2,h3,h4⟩:=ly_ hj;have hl:=r.length;have hn:=fy_;have I':Inv X pins σ (upd H p (.lst (xs.set j v))) {s with heap:=s.heap.update p (Obj.mapSeq (·.setIfInBounds j u))}:=
  I.lstUpd hp ho (jQ_ its n j u) (r.set rv j) (by rw [Bw];exact hz) s.toks
 by_cases h0:0<=k
 .have hk:k.toNat=j:=by
   rw [seqIndex_of h0 h4] at h1;exact Ap h1
  exact W.ki_setAt ho h0 (by lia) (by rw [A8,<-hl];exact h4) (by rw [hk];exact⟨_,I',q⟩)
 .have hk:(k+(its.toArray.size:Int)).toNat=j:=by
   rw [seqIndex_neg (by lia) h3] at h1;rw [A8,<-hl];exact Ap h1
  exact W.ki_setBack ho (by lia) (by rw [A8,<-hl];exact h3) (by lia) (by rw [hk];exact⟨_,I',q⟩)
theorem gK_ (lo hi:Option Int) (n:Nat):(sliceBounds lo hi none n).1=((HT.sIx n 0 lo:Nat):Int)/\(sliceBounds lo hi none n).2.1=((HT.sIx n n hi:Nat):Int)/\(sliceBounds lo hi none n).2.2=1:=by
 refine⟨?_, ?_,rfl⟩
 .cases lo with
  |none=>simp [sliceBounds,HT.sIx]
  |some i=>
   simp only [sliceBounds,HT.sIx,Option.getD_none,show(1:Int)>0 by decide,CI];by_cases h:i<0
   .simp only [h,CI]<;>lia
   .simp only [h,As]<;>lia
 .cases hi with
  |none=>simp [sliceBounds,HT.sIx]
  |some i=>
   simp only [sliceBounds,HT.sIx,Option.getD_none,show(1:Int)>0 by decide,CI];by_cases h:i<0
   .simp only [h,CI]<;>lia
   .simp only [h,As]<;>lia
theorem fR_ (its:List Value) (lo hi:Option Int):slicePick its.toArray lo hi none=((its.drop (HT.sIx its.length 0 lo)).take (HT.sIx its.length its.length hi-HT.sIx its.length 0 lo)).toArray:=by
 obtain⟨h1,h2,h3⟩:=gK_ lo hi its.toArray.size;unfold slicePick;rw [h1,h2,h3];simp only [sliceRange_one,pick_run,A8]<;>rfl
def sK_ (K:W.Frag):V->Option Int->Option Int->Hp->VK->Prop:=fun x lo hi H Q=>∃a xs,x= .ref a/\SqL K H a xs/\∀p,H p=none->Q (.ref p) (upd H p (.lst (hJ_ xs lo hi)))
theorem ky_:SlR X (sK_ X.K):=by
 intro pins s σ H x v vl vu lo hi sl Q I rx hs pl pu h;obtain⟨a,xs,rfl,hx,q⟩:=h;cases rx;obtain⟨its,r,ht,hz⟩:=I.list hx;have hlen:=r.length;refine⟨"list",_,slot_list_getitem.lookup,ht.isList.typeIs, ?_⟩;refine wpAny_getItem_list_slice ht.isList hs pl pu .none (by simp) ?_ (by rw [A8]<;>lia)
 rw [fR_,<-hlen];refine⟨.ref s.heap.objs.size,_,I.laid (t':=s.toks) (o:= .lst (hJ_ xs lo hi)) (fun b ob q=>AB _ q) (A5 _) ?_,rfl,q _ (I.hok.fresh (A5 _))⟩;exact⟨Ai (e2_ xs lo hi) hz,_,0,(r.drop (HT.sIx xs.length 0 lo)).take (HT.sIx xs.length xs.length hi-HT.sIx xs.length 0 lo),AH _ rfl⟩
theorem bU_:ca_ X (.builtin "len") (fun xs H Q=>∃p ys,xs=[.ref p]/\(SqL X.K H p ys\/SqT X.K H p ys)/\Q (.int ys.length) H):=by
 intro pins s σ H xs us Q I r h;obtain⟨p,ys,rfl,hq,q⟩:=h;obtain⟨u,rfl,rx⟩:=dA_ r;cases rx;have hn:=fy_;rcases hq with hq|hq
 .obtain⟨its,r',pl,hz⟩:=I.list hq;have hlen:=r'.length;exact Calls.call_len_list pl.isList (by simp only [A8]<;>lia) ⟨.int ys.length,H,I.tok _,⟨s.toks+1,by rw [A8,hlen]⟩,q⟩
 .obtain⟨its,r',pl,hz⟩:=I.tuple hq;have hlen:=r'.length;exact len_tuple pl (by simp only [A8]<;>lia) ⟨.int ys.length,H,I.tok _,⟨s.toks+1,by rw [A8,hlen]⟩,q⟩
theorem d2_:ca_ X (.type "list") (fun xs H Q=>∃p ys,xs=[.ref p]/\(SqL X.K H p ys\/SqT X.K H p ys)/\∀l,H l=none->Q (.ref l) (upd H l (.lst ys))):=by
 intro pins s σ H xs us Q I r h;obtain⟨p,ys,rfl,hq,q⟩:=h;obtain⟨u,rfl,rx⟩:=dA_ r;cases rx;have fin:∀(its:List Value),aV_ ys its->ys.length<=sizeLine->∀(h':Heap) (c':Nat),(∀b o',s.heap.get? b=some o'->h'.get? b=some o')->
   h'.get? s.heap.objs.size=some {cls:= .type "list",dict:=none,data:= .seq its.toArray c',slots:= #[]}->EP X pins σ Q (.ref s.heap.objs.size) {s with heap:=h'}:=fun its r' hz h' c' kp e=>
  ⟨.ref s.heap.objs.size,_,I.laid (t':=s.toks) kp (A5 _) (show aQ_ X.prog X.w _ h' _ (.lst ys) from⟨hz,its,c',r',e⟩),rfl,q _ (I.hok.fresh (A5 _))⟩
 rcases hq with hq|hq
 .obtain⟨its,r',pl,hz⟩:=I.list hq;have hlen:=r'.length;obtain⟨o,ho,hc,n,hd⟩:=pl.isList;exact call_list_seq p (.inl rfl) ho hc hd (fun h' c' kp e=>fin its r' hz h' c' kp e) (by simp only [A8]<;>lia)
 .obtain⟨its,r',pl,hz⟩:=I.tuple hq;have hlen:=r'.length;obtain⟨o,ho,hc,n,hd⟩:=pl;exact call_list_seq p (.inr rfl) ho hc hd (fun h' c' kp e=>fin its r' hz h' c' kp e) (by simp only [A8]<;>lia)
theorem gx_:ca_ X (.type "tuple") (fun xs H Q=>∃p ys,xs=[.ref p]/\((SqL X.K H p ys/\∀l,H l=none->Q (.ref l) (upd H l (.tup ys)))\/(SqT X.K H p ys/\Q (.ref p) H))):=by
 intro pins s σ H xs us Q I r h;obtain⟨p,ys,rfl,h⟩:=h;obtain⟨u,rfl,rx⟩:=dA_ r;cases rx;rcases h with⟨hq,q⟩|⟨hq,q⟩
 .obtain⟨its,r',pl,hz⟩:=I.list hq;have hlen:=r'.length;refine call_tuple_list pl.isList (fun h' kp=> ?_) (by simp only [A8]<;>lia)
  have I1:Inv X pins σ H {s with heap:=h'}:=I.kept (t':=s.toks) kp;have I2:Inv X pins σ (upd H h'.objs.size (.tup ys)) {s with heap:=h'.push {cls:= .type "tuple",data:= .seq its.toArray}}:=
   I1.laid (t':=s.toks) (fun b o e=>AB _ e) (A5 _) (show aQ_ X.prog X.w _ _ _ (.tup ys) from⟨hz,its,r',IsTup.new _ _⟩)
  exact⟨.ref h'.objs.size,_,I2,rfl,q _ (I1.hok.fresh (A5 _))⟩
 .obtain⟨its,r',pl,hz⟩:=I.tuple hq;exact call_tuple_same pl ⟨.ref p,H,I,rfl,q⟩
def tyV (K:W.Frag) (T:String) (x:V) (H:Hp):Prop:=match x with
 | .str _=>T="str"
 | .int _=>T="int"
 | .ref p=>(T="list"/\∃xs,SqL K H p xs)\/(T="tuple"/\∃o,K.lookup p=some o/\o.cls= .type "tuple"/\o.dict=none)\/
   (T="dict"/\((∃kvs,H p=some (.dK kvs))\/∃kvs,H p=some (.dT kvs)))\/(T="set"/\∃S n,H p=some (.set S n))
 |_=>False
theorem ni_ {pins:List (Addr×Obj)}{σ:St}{H:Hp}{s:Shared}{T:String}{x:V}{v:Value} (I:Inv X pins σ H s) (r:be_ x v) (ty:tyV X.K T x H):
  s.TypeIs v T/\∀a,v= .ref a->∃ob,s.heap.get? a=some ob/\ob.dict=none:=by
 cases x with
 |str z=>
  obtain⟨t,rfl⟩:=r;cases (show T="str" from ty);exact⟨typeIs_str s z t,fun _ e=>nomatch e⟩
 |int i=>
  obtain⟨t,rfl⟩:=r;cases (show T="int" from ty);exact⟨typeIs_int s i t,fun _ e=>nomatch e⟩
 |ref p=>
  cases r;rcases ty with⟨rfl,xs,hq⟩|⟨rfl,o,hk,hc,hd⟩|⟨rfl,hk⟩|⟨rfl,S,n,hk⟩
  .obtain⟨its,_,pl,_⟩:=I.list hq;refine⟨pl.isList.typeIs,fun a e=> ?_⟩;cases e;obtain⟨o,n,e,c,hd,_⟩:=pl;exact⟨o,e,hd⟩
  .refine⟨⟨o,I.kIn p o hk,hc⟩,fun a e=> ?_⟩;cases e;exact⟨o,I.kIn _ o hk,hd⟩
  .have z:∃o,s.heap.get? p=some o/\o.ExactDict:=by
    rcases hk with⟨kvs,hk⟩|⟨kvs,hk⟩
    .obtain⟨_,_,_,_,o,_,_,e,ex,_⟩:=I.hok p _ hk;exact⟨o,e,ex⟩
    .obtain⟨_,_,_,_,o,_,_,e,ex,_⟩:=I.hok p _ hk;exact⟨o,e,ex⟩
   obtain⟨o,e,ex⟩:=z;refine⟨⟨o,e,ex.1⟩,fun a e2=> ?_⟩;cases e2;exact⟨o,e,ex.2.1⟩
  .obtain⟨o,_,_,_,e,ex,_⟩:=I.hok p _ hk;refine⟨⟨o,e,ex.1⟩,fun a e2=> ?_⟩;cases e2;exact⟨o,e,ex.2.1⟩
 |_=>exact False.elim ty
def sC_ (K:W.Frag) (T:String) (r:V->List V->Hp->VK->Prop) (to:TE):TE:=fun σ H Q=>to σ H fun x H1=>tyV K T x H1/\r x [] H1 Q
def tBM (K:W.Frag) (T:String) (r:V->List V->Hp->VK->Prop) (to:TE) (t:TA):TE:=fun σ H Q=>to σ H fun x H1=>tyV K T x H1/\t σ H1 fun xs H2=>r x xs H2 Q
variable {o e:Expr}{es:List Expr}{to:TE}{t:TA}{name:Str}{apos cpos:Pos}{T id:String}{r:V->List V->Hp->VK->Prop}
theorem qi_ (pa:PlainAttrs T) (slot:Slot T name id) (hty:typeOf (.builtin id)=pure (.type "method_descriptor")) (hm:MtR X id r) (ho:PE X o to)
  (hbase:attributeBase o name X.env (eval o X.env)=eval o X.env:=by rfl) (hline:(apos.endLine==cpos.line)=true:=by rfl):PE X (.Call (.Attribute o name apos) [] [] cpos) (sC_ X.K T r to):=by
 intro pins s σ H Q I h;refine wpAny_Call_method0_late hbase hline (thn (ho pins s σ H _ I h) fun v s1 ⟨x,H1,I1,r1,ty,q1⟩=> ?_);obtain⟨h1,h2⟩:=ni_ I1 r1 ty;exact⟨T,id,pa,slot,hty,h1,h2,Cq rfl (PySem.evalArgs_none (hm pins s1 σ H1 x [] v [] Q I1 r1 .nil q1))⟩
theorem jN_ (pa:PlainAttrs T) (slot:Slot T name id) (hty:typeOf (.builtin id)=pure (.type "method_descriptor")) (hm:MtR X id r) (ho:PE X o to) (ha:PA X (e::es) t)
  (hbase:attributeBase o name X.env (eval o X.env)=eval o X.env:=by rfl)
  (hfew:((backTo cpos (starEach (e::es) X.env)).all (fun x=> !x.1)&&(backToKw cpos (keywordEach [] X.env)).all (fun x=>x.1.isSome)
   &&decide ((e::es).length+([]:List Keyword).length+(if([]:List Keyword).isEmpty then 0 else 1)<30))=true:=by rfl)
  (hline:(apos.endLine==cpos.line)=true:=by rfl) (hs:starEach (e::es) X.env=(false,eval e X.env)::starEach es X.env:=by rfl) (hplain:(backTo cpos (starEach es X.env)).any (·.1)=false:=by rfl):
  PE X (.Call (.Attribute o name apos) (e::es) [] cpos) (tBM X.K T r to t):=by
 intro pins s σ H Q I h;refine wpAny_Call_method_late hbase hfew hline rfl (thn (ho pins s σ H _ I h) fun v s1 ⟨x,H1,I1,r1,ty,q1⟩=> ?_);obtain⟨h1,h2⟩:=ni_ I1 r1 ty;refine⟨T,id,pa,slot,hty,h1,h2, ?_⟩;have hA:=ha cpos pins s1 σ H1 _ I1 q1;rw [hs] at hA⊢;refine Cq (by show(false||(backTo cpos (starEach es X.env)).any (·.1))=false;rw [hplain]<;>rfl) (Calls.evalArgs_plain ?_)
 exact thn hA fun us s2 ⟨vs,H2,I2,r2,q2⟩=>hm pins s2 σ H2 x vs v us Q I2 r1 r2 q2
end
end L2
namespace L2
open PySem PySem.Spec PyProof.Rows
def MtM (X:Cx) (id:String) (r:V->List V->Hp->VK->Prop):Prop:=
 ∀(pins:List (Addr×Obj)) (s:Shared) (σ:St) (H:Hp) (x:V) (xs:List V) (v:Value) (us:List Value) (Q:VK),Inv X pins σ H s->be_ x v->aV_ xs us->r x xs H Q->
  wpAny (model X.prog X.w) X.A (call (.builtin id) (v::us)) (EP X pins σ Q) X.xe s
theorem aV_.one:∀{x:V}{us:List Value},aV_ [x] us->∃u,us=[u]/\be_ x u
 |_,_, .cons r .nil=>⟨_,rfl,r⟩
theorem aV_.zero:∀{us:List Value},aV_ [] us->us=[]
 |_, .nil=>rfl
theorem aV_.dropLast {xs:List V}{us:List Value} (h:aV_ xs us):aV_ xs.dropLast us.dropLast:=by
 induction h with
 |nil=>exact .nil
 |cons r t ih=>
  cases t with
  |nil=>exact .nil
  |cons q t'=>exact .cons r ih
theorem aV_.rep {xs:List V}{us:List Value} (h:aV_ xs us):∀k:Nat,aV_ (List.replicate k xs).flatten (List.replicate k us).flatten
 |0=> .nil
 |k+1=>by
  rw [Aj,Aj,C7,C7];exact aV_.append h (aV_.rep h k)
theorem jY_ {α:Type} (l:List α):l.eraseIdx (l.length-1)=l.dropLast:=by
 induction l with
 |nil=>rfl
 |cons a r ih=>
  cases r with
  |nil=>rfl
  |cons b r=>
   have e:(a::b::r).length-1=((b::r).length-1)+1:=by
    have h1:(a::b::r).length=r.length+2:=rfl;have h2:(b::r).length=r.length+1:=rfl;lia
   rw [e,List.eraseIdx_cons_succ,ih];all_goals rfl
theorem hm_ (its:List Value):∀(k:Nat) (acc:List Value),
  List.foldl (fun x1 x2=>x1++x2) acc.toArray (List.replicate k its.toArray)=(acc++(List.replicate k its).flatten).toArray
 |0,acc=>by simp
 |k+1,acc=>by
  have e:acc.toArray++its.toArray=(acc++its).toArray:=by simp
  have e2:(acc++its)++(List.replicate k its).flatten=acc++(List.replicate (k+1) its).flatten:=by
   rw [Aj,C7,BX]
  rw [<-e2,<-hm_ its k (acc++its),<-e,Aj,List.foldl_cons]
section
variable {X:Cx}{pins:List (Addr×Obj)}{σ:St}{H:Hp}{s:Shared}{l b:Addr}{xs ys zs:List V}
theorem Inv.lset {its its':List Value}{n:Nat}{f:Array Value->Array Value}{t':Nat} (I:Inv X pins σ H s) (hH:H l=some (.lst xs))
  (e:s.heap.get? l=some {cls:= .type "list",data:= .seq its.toArray n}) (hf:f its.toArray=its'.toArray) (hv:aV_ ys its') (hz:ys.length<=sizeLine):
  Inv X pins σ (upd H l (.lst ys)) {s with heap:=s.heap.update l (Obj.mapSeq f),toks:=t'}:=by
 have q:=PySem.IsL.update e f;rw [hf] at q;refine I.write (x:=l) (e:=l) (by rw [hH];exact trivial) (.inl rfl) (fun b' u hb hu=>(Heap.get?_update_other s.heap (Obj.mapSeq f) (Ne.symm hb)).trans hu) ⟨_,q⟩ ?_;exact⟨hz,its',_,hv,q⟩
theorem Inv.lnew {its:List Value}{t':Nat} (I:Inv X pins σ H s) (hv:aV_ ys its) (hz:ys.length<=sizeLine):
  Inv X pins σ (upd H s.heap.objs.size (.lst ys)) {s with heap:=s.heap.push {cls:= .type "list",data:= .seq its.toArray},toks:=t'}:=
 I.laid (fun _ _ q=>AB _ q) (A5 _) ⟨hz,its,0,hv,AH _ rfl⟩
theorem Inv.fresh (I:Inv X pins σ H s):H s.heap.objs.size=none:=I.hok.fresh (A5 _)
theorem Inv.lstM (I:Inv X pins σ H s) (hH:H l=some (.lst xs)):xs.length<=sizeLine/\∃(its:List Value) (n:Nat),aV_ xs its/\xs.length=its.length/\s.heap.get? l=some {cls:= .type "list",data:= .seq its.toArray n}:=by
 obtain⟨z,its,n,r,e⟩:=I.hok l _ hH;exact⟨z,its,n,r,r.length,e⟩
theorem iW_ {n:Nat} (h:n<=sizeLine):Builtin.List.listTooLong n=false:=by
 unfold Builtin.List.listTooLong;exact AR (by lia)
end
section
variable {X:Cx}
def ev_:V->List V->Hp->VK->Prop:=fun x vs H Q=>∃l xs y,x= .ref l/\vs=[y]/\H l=some (.lst xs)/\xs.length<sizeLine/\Q .non (upd H l (.lst (xs++[y])))
theorem dp_:MtM X "list.append" ev_:=by
 intro pins s σ H x vs v us Q I rx rv h;obtain⟨l,xs,y,rfl,rfl,hH,hz,q⟩:=h;cases rx;obtain⟨u,rfl,ru⟩:=rv.one;obtain⟨z,its,n,r,hl,e⟩:=I.lstM hH;refine DC F.slot_list_append ⟨_,e,rfl⟩ F.entry_list_append (F.args_list_append_2 _ _) (PySem.list_append l its.toArray n u (by rw [A8];lia)) ⟨e, ?_⟩;refine⟨.non,_,I.lset (its':=its++[u]) hH e (by simp) (r.append (.cons ru .nil)) ?_,rfl,q⟩;rw [AO,BM];lia
def ot_:V->List V->Hp->VK->Prop:=fun x vs H Q=>∃l b xs zs,x= .ref l/\vs=[.ref b]/\H l=some (.lst xs)/\H b=some (.lst zs)/\xs.length+zs.length<=sizeLine/\Q .non (upd H l (.lst (xs++zs)))
theorem g3_:MtM X "list.extend" ot_:=by
 intro pins s σ H x vs v us Q I rx rv h;obtain⟨l,b,xs,zs,rfl,rfl,hH,hB,hz,q⟩:=h;cases rx;obtain⟨u,rfl,ru⟩:=rv.one;cases ru;obtain⟨z,its,n,r,hl,e⟩:=I.lstM hH;obtain⟨z2,its2,n2,r2,hl2,e2⟩:=I.lstM hB;have hsz:its.toArray.size+its2.toArray.size<=sizeLine:=by rw [A8,A8];lia
 have hlong:¬(!its.toArray.isEmpty&&Builtin.List.listTooLong (its.toArray.size+its2.toArray.size))=true:=by
  rw [iW_ hsz,CG];exact AQ
 refine DC F.slot_list_extend ⟨_,e,rfl⟩ F.entry_list_extend (F.args_list_extend_2 _ _)
  (AutoSeq1.list_extend_list_list_0 l its.toArray n b its2.toArray n2 hlong (by rw [A8];lia) (by lia)) ⟨e,e2, ?_⟩
 refine⟨.non,_,I.lset (its':=its++its2) hH e (by simp) (r.append r2) ?_,rfl,q⟩;rw [AO];lia
def sN_:V->List V->Hp->VK->Prop:=fun x vs H Q=>∃l xs y,x= .ref l/\vs=[]/\H l=some (.lst xs)/\xs[xs.length-1]? =some y/\Q y (upd H l (.lst xs.dropLast))
theorem qt_:MtM X "list.pop" sN_:=by
 intro pins s σ H x vs v us Q I rx rv h;obtain⟨l,xs,y,rfl,rfl,hH,hy,q⟩:=h;cases rx;have hus:=rv.zero;subst hus;obtain⟨z,its,n,r,hl,e⟩:=I.lstM hH;obtain⟨u,hu,ru⟩:=r.get hy;have hy':its.toArray[its.toArray.size-1]? =some u:=by
  show its.toArray[its.length-1]? =some u;rw [<-Bu,<-hl];exact hu
 refine DC F.slot_list_pop ⟨_,e,rfl⟩ F.entry_list_pop (F.args_list_pop_1 _) (MeetsSeq.list_pop_last l its.toArray n u hy' (by rw [A8];lia)) ⟨e, ?_⟩;refine⟨y,_,I.lset (its':=its.dropLast) hH e ?_ r.dropLast ?_,ru,q⟩
 .show its.toArray.eraseIdxIfInBounds (its.toArray.size-1)=its.dropLast.toArray;rw [A8,List.eraseIdxIfInBounds_toArray,jY_]
 .rw [List.length_dropLast];lia
def sP_:R2:=fun x y H Q=>∃l b xs zs,x= .ref l/\y= .ref b/\H l=some (.lst xs)/\H b=some (.lst zs)/\xs.length+zs.length<=sizeLine/\∀p,H p=none->Q (.ref p) (upd H p (.lst (xs++zs)))
theorem qm_:OpR X (binaryOp .Add) sP_:=by
 intro pins s σ H x y v u Q I rx ry h;obtain⟨l,b,xs,zs,rfl,rfl,hH,hB,hz,q⟩:=h;cases rx;cases ry;obtain⟨z,its,n,r,hl,e⟩:=I.lstM hH;obtain⟨z2,its2,n2,r2,hl2,e2⟩:=I.lstM hB;refine PySem.P.add_list e e2 ?_ (by rw [A8,A8];lia);have ea:its.toArray++its2.toArray=(its++its2).toArray:=by simp
 rw [ea];exact⟨.ref _,_,I.lnew (t':=s.toks) (r.append r2) (by rw [AO];lia),rfl,q _ I.fresh⟩
def sM_:R2:=fun x y H Q=>∃l k xs,x= .ref l/\y= .int k/\H l=some (.lst xs)/\-(2^63)<=k/\k<2^63/\xs.length*k.toNat<=sizeLine/\
 ∀p,H p=none->Q (.ref p) (upd H p (.lst (List.replicate k.toNat xs).flatten))
theorem oO_ {α:Type} (xs:List α) (k:Nat):(List.replicate k xs).flatten.length=k*xs.length:=by
 induction k with
 |zero=>simp
 |succ k ih=>rw [Aj,C7,AO,ih,Nat.succ_mul,Nat.add_comm]
theorem k4_:OpR X (binaryOp .Mult) sM_:=by
 intro pins s σ H x y v u Q I rx ry h;obtain⟨l,k,xs,rfl,rfl,hH,h1,h2,hz,q⟩:=h;cases rx;obtain⟨t,rfl⟩:=ry;obtain⟨z,its,n,r,hl,e⟩:=I.lstM hH;have hlen:its.toArray.size*k.toNat<=sizeLine:=by rw [A8,<-hl];exact hz
 have hcap:¬its.toArray.size*k.toNat>(2^63-1)/8:=by
  have:(sizeLine:Nat)<=(2^63-1)/8:=by decide
  lia
 have hfit:¬(!Builtin.List.listFitsIndex k)=true:=by
  rw [fitsIndex_both h1 h2];exact AQ
 have hlong:¬Builtin.List.listTooLong (its.toArray.size*k.toNat)=true:=by
  rw [iW_ hlen];exact AQ
 have hnew:List.foldl (fun x1 x2=>x1++x2) #[] (List.replicate (if its.toArray.isEmpty=true then 0 else k.toNat) its.toArray)=(List.replicate k.toNat its).flatten.toArray:=by
  have f0:∀m:Nat,List.foldl (fun x1 x2=>x1++x2) #[] (List.replicate m its.toArray)=(List.replicate m its).flatten.toArray:=fun m=>by
   have:=hm_ its m [];rw [List.nil_append] at this;exact this
  rw [f0];cases its with
  |nil=>simp
  |cons a r'=>rw [A7 (by simp)]
 refine wpAny_binaryOp_repeat_ref (T:="list") (U:="int") (by decide) ⟨_,e,rfl⟩ (fun s'=>typeIs_int s' k t) noFill_list_mul F.fills_int_mul F.slot_int_rmul repeat_list F.slot_int_index.lookup
  (DC F.slot_int_rmul (typeIs_int s k t) F.entry_int_rmul (F.args_int_rmul_2 _ _) (int___rmul___int_list k t l its.toArray n)
   ⟨e,rfl,⟨_,e,rfl⟩,DC F.slot_list_mul ⟨_,e,rfl⟩ F.entry_list_mul (F.args_list_mul_2 _ _) (AutoListH.list___mul___list_int_3 l its.toArray n k t hfit hcap hlong) ⟨e, ?_⟩⟩)
 rw [hnew];exact⟨.ref _,_,I.lnew (t':=s.toks) (r.rep k.toNat) (by rw [oO_,Nat.mul_comm];exact hz),rfl,q _ I.fresh⟩
end
section
variable {prog:Program}{w:World}{A:Around}{E:Value->Shared->Prop}{s:Shared}
end
section
variable {X:Cx}
end
end L2
namespace Att
open PySem PySem.W PySem.Calls PyProof.Rows
theorem eU_ {P:Params}{h:Heap}:∀(ns:List Int) (vs:List Value),WellAll P h vs (ns.map WData.int)->IntsAre vs ns:=by
 intro ns;induction ns with
 |nil=>
  intro vs w;rw [List.map_nil] at w;cases w;exact .nil
 |cons n ns ih=>
  intro vs w;rw [AW] at w;cases w with
  |cons a b=>
   cases a;exact .cons _ _ (ih _ b)
theorem kB_ {l:OpenLaw}{n:Nat} (hn:l.most=some n) {P:Params}{h:Heap}{args:List WData}{vals:List Value}
  (hpre:l.row.toRowW.claim.pre args=true) (hwl:WellAll P h vals args):
  ∃a vs ns,vals=[Value.ref a]/\args=[WData.list (ns.map WData.int)]/\h.get? a=some {cls:= .type "list",data:= .seq vs.toArray}/\IntsAre vs ns/\ns.length<=n:=by
 have hsh:WShape.hasAll [] args [.list .int]=true:=(pre_splitW hpre).1;have hc:l.pre.holds [] {args:=args}=true:=(pre_splitW hpre).2;obtain⟨d,r,rfl,h1,h2⟩:=hasAllW_cons hsh;obtain rfl:=hasAllW_nil h2;obtain⟨xs,rfl,h3⟩:=hasW_list h1;obtain⟨ns,rfl⟩:=items_int h3;have hlen:ns.length<=n:=by
  unfold OpenLaw.pre at hc;have h4:(WTm.not (.lt (.lit (.int (n:Int))) (.len (.arg 0)))).holds [] {args:=[.list (ns.map .int)]}=true:=by
   have h4:=(holds_andW hc).1;rw [hn] at h4;exact h4
  have h5:=condW_of h4 (w_not (w_lt w_lit (w_len_list (w_arg rfl))));rw [A2] at h5;refine Nat.le_of_not_lt fun q=> ?_;have q':(n:Int)<((ns.length:Nat):Int):=by lia
  first
   |(rw [Ah q'] at h5;exact absurd h5 (by decide))
   |(simp at h5;lia)
 cases hwl with
 |cons w1 w2=>
  cases w2;cases w1 with
  |list ho hall=>exact⟨_,_,ns,rfl,rfl,ho,eU_ ns _ hall,hlen⟩
theorem kQ_ (l:OpenLaw) (args:List WData):l.row.toRowW.claim.post args (.bool true) args=true:=
 postW_of (r:=l.row.toRowW) (X:=(true==true))
  (show WShape.has [] (.bool true) .bool=true by first|rfl|decide|simp [WShape.has,WShape.arms,WShape.armsAll])
  (show(WTm.eq .res (.lit (.bool true))).value [] {args:=args,res:=some (.bool true),after:=args}=some (.bool (true==true)) from w_eq_bool (w_res rfl) w_lit) rfl
theorem attach_call {l:OpenLaw}{n:Nat}{q:Program}{loose:List Str}{XP:(Str->Option Value)->Heap->Prop}{YP:World->Heap->Prop}{d:DefRec}
  (hn:l.most=some n) (hdf:d.params.defaults=[])
  (call:∀(w:World) (s₀ s₁:Shared) (mg mb:Str->Option Value) (fa:Addr) (o:Obj) (pm cd doc:Value) (a:Addr) (vs:List Value) (ns:List Int),
   Ground q loose [] XP w s₀ mg mb s₁.heap->YP w s₁.heap->
   s₁.heap.get? fa=some o->o.data= .func (docDef d.name d.params d.body d.scope pm cd doc)->s₁.heap.CodeRec cd d.name->mg d.name=some (.ref fa)->
   s₁.heap.get? a=some {cls:= .type "list",data:= .seq vs.toArray}->IntsAre vs ns->ns.length<=n->s₁.gens= #[]->
   codeAny (model l.prog w) callerA (.call (.ref fa) ⟨[.ref a],[]⟩) (fun r s'=>r= .ok (.ret (.bool true))/\OldK s₁.heap s'.heap/\s'.os=s₁.os/\AllBare s'.gens) s₁):
  WalkO q loose XP YP l.row.toRowW d [] (fun f vs=>PySem.call f vs):=by
 intro w s₀ s₁ mg mb G Y fa o pm cd doc dV kV ho hd hcd hD hmg hg args vals as hpre hlay hrd hwl hlo;obtain rfl:dV= .none:=Dflts.none hD hdf;obtain rfl:kV= .none:=Dflts.noKw hD;obtain⟨a,vs,ns,rfl,rfl,hobj,hints,hlen⟩:=kB_ hn hpre hwl;refine enter_call (codeAny_mono (call w s₀ s₁ mg mb fa o pm cd doc a vs ns G Y ho (fd_plain hd) hcd hmg hobj hints hlen hg) fun r s' hq=> ?_);obtain⟨rfl,h2,h3,h4⟩:=hq;exact⟨.inl ⟨.bool true, .bool true,[],rfl,fun _=>rfl, .bool true,kQ_ l _,fun _=>⟨List.Pairwise.nil,fun _ hm=>(nomatch hm)⟩⟩,h2,h3,h4⟩
section
variable {prog:Program}{w:World}{A:Around}{E:Value->Shared->Prop}{s:Shared}{K:Frag}
def sl_ (h:Heap) (L d:Addr):List (Addr×Obj):=(List.range h.objs.size).filterMap fun a=>if a=L\/a=d then none else(h.get? a).map fun o=>(a,o)
end
end Att
namespace L2
open PySem PySem.Spec PyProof.Rows
theorem gH_:∀{vs:List Value}{ns:List Int},IntsAre vs ns->aV_ (ns.map V.int) vs
 |_,_, .nil=> .nil
 |_,_, .cons n t h=> .cons ⟨t,rfl⟩ (gH_ h)
def r9_ (H:Hp):Prop:=∀b,H b=none\/∃o xs,H b=some (.frz o (.lst xs))
theorem mN_ {P:Program}{w:World}{K:W.Frag}{mg mb:Str->Option Value}{CX:CXT}{k:Nat}{fa a:Addr}{fd:FuncData}{x:Str}{sp:Sp}{s₁:Shared}{vs:List Value}{ns:List Int}
  (KX:K.In s₁.heap) (hns:s₁.heap.Ns mainGlobals mg) (hb:s₁.heap.Ns builtinsNs mb) (hbb:∀x:Str,x≠"__name__"->mb x=bootBuiltins x) (hlim:s₁.heap.NoLimit) (hg:s₁.gens= #[])
  (ha:s₁.heap.get? a=some {cls:= .type "list",data:= .seq vs.toArray}) (hi:IntsAre vs ns) (hl:ns.length<=sizeLine) (hr:Room k callerA)
  (F:∀base:Heap,K.In base->base.Ns mainGlobals mg->FnOk P w K mg base CX k fa fd [x] sp) (hbind:∀(s:Shared) (u:Value),BindsTo s fd ⟨[u],[]⟩ [(x,u)])
  (hsp:∀H:Hp,r9_ H->SqL K H a (ns.map V.int)->sp [.ref a] H (fun v _=>v= .bl true) fun _ _ _=>False)
  (hCX:∀H e s',CX [] H s₁ (fun _ _ _=>False) e s'->False):
  codeAny (model P w) callerA (.call (.ref fa) ⟨[.ref a],[]⟩) (fun r s'=>r= .ok (.ret (.bool true))/\OldK s₁.heap s'.heap/\s'.os=s₁.os/\AllBare s'.gens) s₁:=by
 have rv:=gH_ hi;have lenV:=hi.length;have core:∀H:Hp,r9_ H->SqL K H a (ns.map V.int)->HOk P w H s₁.heap->(∀b,H b≠none->b=a)->(H a≠none->K.lookup a=none)->
   codeAny (model P w) callerA (.call (.ref fa) ⟨[.ref a],[]⟩) (fun r s'=>r= .ok (.ret (.bool true))/\OldK s₁.heap s'.heap/\s'.os=s₁.os/\AllBare s'.gens) s₁:=by
  intro H hO hS hok hA hK;have base_of:∀{b:Addr}{o:Obj},s₁.heap.get? b=some o->H b=none->(mV_ s₁.heap H).get? b=some o:=fun e n=>mU_ e n;have noA:∀{b:Addr}{o:Obj}{es:Array DictEntry}{ep:Nat},s₁.heap.get? b=some o->o.data= .dict es ep->H b=none:=fun{b o es ep} e d=>by
   cases q:H b with
   |none=>rfl
   |some u=>
    have e':b=a:=hA b (by rw [q];simp);subst e';rw [ha] at e;cases e;have d':Data.seq vs.toArray _=Data.dict es ep:=d;cases d'
  have nsK:∀{b:Addr}{m:Str->Option Value},s₁.heap.Ns b m->(mV_ s₁.heap H).Ns b m:=fun{b m} ⟨o,es,ep,e,d,r⟩=>⟨o,es,ep,base_of e (noA e d),d,r⟩;have hKb:K.In (mV_ s₁.heap H):=fun b o e=>base_of (KX b o e) (by
   cases q:H b with
   |none=>rfl
   |some u=>
    have e':b=a:=hA b (by rw [q];simp);subst e';rw [hK (by rw [q];simp)] at e;cases e)
  have hM:Mod K mg (mV_ s₁.heap H):=⟨hKb,nsK hns,⟨mb,nsK hb,hbb⟩,let ⟨mc,h1,h2⟩:=hlim;⟨mc,nsK h1,h2⟩⟩;have e0:Env0 P w K mg (mV_ s₁.heap H) callerA [] s₁ H:=⟨rfl,hM,fun b o e=>oF_ e,Nat.le_of_eq (lG_ _ _),trivial,fun b hb=>absurd (show b∈([]:List Addr) from hb) (by simp),hok, .of_eq hg⟩;refine codeAny_mono ((F _ hKb (nsK hns)).run callerA [] s₁ H ⟨[.ref a],[]⟩ [.ref a] [.ref a] _ _ hr e0 (hbind s₁ (.ref a)) (.cons rfl .nil) (hsp H hO hS)) fun r s' h=> ?_;cases r with
  |error e=>exact(hCX H e s' h).elim
  |ok fl=>
   cases fl with
   |next=>exact False.elim h
   |brk=>exact False.elim h
   |cont=>exact False.elim h
   |ret u=>
    obtain⟨v,H',os,bare,un,hok',r',q⟩:=h;have q':v= .bl true:=q;subst q';obtain rfl:u=Value.bool true:=r';refine⟨rfl,OldK.of_keep fun b o e=> ?_,os,bare⟩;cases q:H b with
    |none=>exact un.keep b o e q (by intro z;exact absurd (show b∈([]:List Addr) from z) (by simp)) (by simp)
    |some u=>
     rcases hO b with z|⟨ob,xs,z⟩
     .rw [q] at z;cases z
     .have z2:=un.frzs b ob _ z;obtain⟨e1,_⟩:=hok b _ z;obtain⟨e2,_⟩:=hok' b _ z2;rw [e] at e1;cases e1;exact e2
 cases hk:K.lookup a with
 |some o=>
  have e:=KX a o hk;rw [ha] at e;cases e;refine core (fun _=>none) (fun _=> .inl rfl) (.inr ⟨_,vs.toArray,_,hk,rfl,rfl,rfl,by rw [A8,lenV];exact hl,by simpa using rv⟩) (fun b u z=>by have z':(none:Option HO)=some u:=z;cases z') (fun b z=>absurd rfl z) fun z=>absurd rfl z
 |none=>
  refine core (fun b=>if b=a then some (.frz {cls:= .type "list",data:= .seq vs.toArray} (.lst (ns.map V.int))) else none) (fun b=> ?_) (.inl (.inr ⟨{cls:= .type "list",data:= .seq vs.toArray},A9 rfl⟩)) (fun b u z=> ?_) (fun b z=> ?_) fun _=>hk
  .by_cases hb:b=a
   .exact .inr ⟨_,_,A9 hb⟩
   .exact .inl (A7 hb)
  .by_cases hb:b=a
   .have z':=(A9 hb).symm.trans z;cases z';subst hb;exact⟨ha,by rw [A2];exact hl,vs,_,rv,ha⟩
   .have z':=(A7 hb).symm.trans z;cases z'
  .by_cases hb:b=a
   .exact hb
   .exact absurd (A7 hb) z
end L2
namespace L2
open PySem PySem.Spec PyProof.Rows
theorem n3_ {l:W.OpenLaw}{n k:Nat}{q:Program}{loose:List Str}{XP:(Str->Option Value)->Heap->Prop}{YP:World->Heap->Prop}{d:DefRec}{K:Params->W.Frag}{CX:World->CXT}{sp:World->Sp}{x:Str}
  (hn:l.most=some n) (hn2:n<=sizeLine) (hdf:d.params.defaults=[]) (hr:Room k callerA)
  (hY:∀(w:World) (h:Heap),YP w h->(K w.params).In h)
  (F:∀(w:World) (mg:Str->Option Value) (fa:Addr) (h:Heap),(K w.params).In h->h.Ns mainGlobals mg->mg d.name=some (.ref fa)->
   ∃fd:FuncData,(∀(s:Shared) (u:Value),BindsTo s fd ⟨[u],[]⟩ [(x,u)])/\
    ∀base:Heap,(K w.params).In base->base.Ns mainGlobals mg->FnOk l.prog w (K w.params) mg base (CX w) k fa fd [x] (sp w))
  (hsp:∀(w:World) (H:Hp) (a:Addr) (ns:List Int),ns.length<=n->r9_ H->SqL (K w.params) H a (ns.map V.int)->sp w [.ref a] H (fun v _=>v= .bl true) fun _ _ _=>False)
  (hCX:∀(w:World) (H:Hp) (s:Shared) (e:Value) (s':Shared),CX w [] H s (fun _ _ _=>False) e s'->False):
  W.WalkO q loose XP YP l.row.toRowW d [] (fun f vs=>PySem.call f vs):=by
 refine Att.attach_call hn hdf fun w s₀ s₁ mg mb fa o pm cd doc a vs ns G Y ho hd hcd hmg hobj hints hlen hg=> ?_;have KX:=hY w _ Y;obtain⟨fd,hb,hF⟩:=F w mg fa _ KX G.T.g hmg;exact mN_ KX G.T.g G.T.b G.T.builtins G.T.nolimit hg hobj hints (Ai hlen hn2) hr hF hb (fun H hO hS=>hsp w H a ns hlen hO hS) fun H e s'=>hCX w H s₁ e s'
end L2
namespace L2
open PySem PySem.Spec PyProof.Rows
def an_ (s:Stmt):Arguments:=match s with
 | .FunctionDef _ a _ _ _ _ _ _ _ _=>a
 |_=>{posonlyargs:=[],args:=[],vararg:=none,kwonlyargs:=[],kw_defaults:=[],kwarg:=none,defaults:=[]}
def am_ (s:Stmt):List Stmt:=match s with
 | .FunctionDef _ _ b _ _ _ _ _ _ _=>b
 |_=>[]
def ab_ (s:Stmt):Scope:=match s with
 | .FunctionDef _ _ _ _ _ _ sc _ _ _=>sc
 |_=>{kind:= .function,names:=[],isGenerator:=false,isCoroutine:=false}
abbrev CX0:CXT:=fun _ _ _ _ _ _=>False
abbrev E0:XK:=fun _ _ _=>False
theorem au_ {X:Cx}:d3_ CX0 X E0:=fun _ _ _ _ _ _ _ h=>h.elim
structure Fun (K:W.Frag) (x qual:Str) (st:Stmt) (f:Addr) (fd:FuncData):Prop where
 ex:∃(oc:Value) (od:Option Addr) (kV doc pm:Value) (an:Option Addr) (cdv ct:Value) (osl:Array (Option Value)),
  fd=W.fnOf x qual (an_ st) (am_ st) (ab_ st) .none kV doc pm an cdv ct/\K.lookup f=some ⟨oc,od, .func fd,osl⟩/\W.codeIn K cdv qual=true
 kp:W.keepIn K (.ref f)=true
section
variable {P:Program}{w:World}{K:W.Frag}{mg:Str->Option Value}{base:Heap}
theorem Fun.ok {x qual:Str}{st:Stmt}{f:Addr}{fd:FuncData}{N ps:List Str}{k:Nat}{sp:Sp} (F:Fun K x qual st f fd) (S:FnScope N ps (ab_ st)) (len:∀vs H Q E,sp vs H Q E->vs.length=ps.length)
  (hbody:∀(cdv:Value) (A:Around) (outer:List Env) (s:Shared) (H:Hp) (vs:List V) (Q:VK) (E:XK),Room k (A.deeper (envOfC qual (ab_ st) s.heap.objs.size f cdv))->sp vs H Q E->
   ∃t,PSs (j8_ CX0 P w K mg base N qual (ab_ st) f cdv A outer s H E).nox (am_ st) t/\t {nx:=fun _ H'=>Q .non H',rt:=Q} (start N vs) H):FnOk P w K mg base CX0 (k+1) f fd ps sp:=by
 obtain⟨oc,od,kV,doc,pm,an,cdv,ct,osl,rfl,lk,hcd⟩:=F.ex;refine qK_ lk hcd S len fun A outer s H vs Q E hr hsp=> ?_;obtain⟨t,h,q⟩:=hbody cdv A outer s H vs Q E hr hsp;exact⟨t,h.nox,q⟩
theorem Fun.binds {x qual:Str}{st:Stmt}{f:Addr}{fd:FuncData}{ps:List Str} (F:Fun K x qual st f fd)
  (h:∀(kV doc pm:Value) (an:Option Addr) (cdv ct:Value) (us:List Value),us.length=ps.length->bindArgs (W.fnOf x qual (an_ st) (am_ st) (ab_ st) .none kV doc pm an cdv ct) ⟨us,[]⟩=pure (ps.zip us)):aN_ K fd ps []:=by
 obtain⟨oc,od,kV,doc,pm,an,cdv,ct,osl,rfl,lk,hcd⟩:=F.ex;exact .all (h kV doc pm an cdv ct)
theorem ay_ {x qual:Str}{st:Stmt}{f:Addr}{oc:Value}{od an:Option Addr}{osl:Array (Option Value)}{kV doc pm cdv ct:Value} (l:K.lookup f=some ⟨oc,od, .func (W.fnOf x qual (an_ st) (am_ st) (ab_ st) .none kV doc pm an cdv ct),osl⟩)
  (c:W.codeIn K cdv qual=true) (k:W.keepIn K (.ref f)=true):Fun K x qual st f (W.fnOf x qual (an_ st) (am_ st) (ab_ st) .none kV doc pm an cdv ct):=⟨⟨oc,od,kV,doc,pm,an,cdv,ct,osl,rfl,l,c⟩,k⟩
end
theorem ig_ {A:Around}{k:Nat} (hr:Room k A):A.units+1<cLine:=Br (Nat.add_le_add_left (by decide:1<=64) _) hr.units
theorem ar_ {n:Nat} (h:n<=1000):n<sizeLine:=Br h (by decide)
section
variable {X:Cx}
theorem pv (i:Nat) {x:Str}{pos:Pos} (hN:X.N[i]? =some x:=by rfl) (hv:Vis X.env.scope x:=by first|exact Or.inl rfl|exact Or.inr (Or.inl rfl)|exact Or.inr (Or.inr rfl)) (hd:(x==("__debug__":Str))=false:=by decide)
  (hcd:(x==("__classdict__":Str))=false:=by decide):PE X (.Name x pos) (q4_ i):=qf_ hN hv hd hcd
end
theorem d0_ {A B:Prop} (h:B):if false=true then A else B:=by
 rw [A7 AQ];exact h
theorem ie_ {A B:Prop} (h:A):if true=true then A else B:=by
 rw [A9 rfl];exact h
def ak_ (H H':Hp):Prop:=∀b o,H b=some o->H' b=some o
theorem ak_.refl (H:Hp):ak_ H H:=fun _ _ h=>h
theorem ak_.trans {H H1 H2:Hp} (a:ak_ H H1) (b:ak_ H1 H2):ak_ H H2:=fun c o h=>b c o (a c o h)
theorem ak_.free {H H':Hp} (e:ak_ H H') {l:Addr} (h:H' l=Option.none):H l=Option.none:=by
 cases q:H l with
 |none=>rfl
 |some o=>
  rw [e l o q] at h;cases h
theorem ak_.seq {K:W.Frag}{H H':Hp}{a:Addr}{xs:List V} (e:ak_ H H') (h:SqL K H a xs):SqL K H' a xs:=by
 rcases h with(h|⟨o,h⟩)|h
 .exact .inl (.inl (e _ _ h))
 .exact .inl (.inr ⟨o,e _ _ h⟩)
 .exact .inr h
end L2
set_option maxHeartbeats 4000000
namespace L2
open PySem PySem.Spec PyProof.Rows
section
variable {κ:Type} [DecidableEq κ]
def hO_ (kvs:List (κ×V)) (k:κ):Option V:=(kvs.find? fun kv=>decide (kv.1=k)).map (·.2)
def gR_ (kvs:List (κ×V)) (k:κ) (v:V):List (κ×V):=
 if(kvs.any fun kv=>decide (kv.1=k))=true then kvs.map (fun kv=>if kv.1=k then(kv.1,v) else kv) else kvs++[(k,v)]
theorem fI_ {p:κ×V}{r:List (κ×V)}{k:κ} (e:p.1=k):hO_ (p::r) k=some p.2:=by simp [hO_,Bh,e]
theorem fJ_ {p:κ×V}{r:List (κ×V)}{k:κ} (e:¬p.1=k):hO_ (p::r) k=hO_ r k:=by simp [hO_,Bh,e]
theorem iB_ (k:κ):∀kvs:List (κ×V),(kvs.any fun kv=>decide (kv.1=k))=(hO_ kvs k).isSome
 |[]=>rfl
 |p::r=>by
  rw [List.any_cons];by_cases e:p.1=k
  .simp only [fI_ e,Ah e,Bool.true_or,Option.isSome_some]
  .rw [fJ_ e,AR e,Bool.false_or];exact iB_ k r
theorem eO_ (kvs:List (κ×V)) (k:κ) (v:V):(gR_ kvs k v).length<=kvs.length+1:=by
 unfold gR_;split
 .rw [A2];lia
 .rw [AO,Ag,List.length_nil];lia
theorem j6_.isSome_eq {o:Option V}{u:Option Value} (r:j6_ o u):o.isSome=u.isSome:=by
 cases o with
 |none=>cases u with
  |none=>rfl
  |some _=>exact(show False from r).elim
 |some _=>cases u with
  |none=>exact(show False from r).elim
  |some _=>rfl
theorem j6_.getD {o:Option V}{u:Option Value}{d:V}{d':Value} (r:j6_ o u) (rd:be_ d d'):be_ (o.getD d) (u.getD d'):=by
 cases o with
 |none=>cases u with
  |none=>exact rd
  |some _=>exact(show False from r).elim
 |some _=>cases u with
  |none=>exact(show False from r).elim
  |some _=>exact r
theorem KV.val {kvs:List (κ×V)}{vs:List (κ×Value)} (r:KV kvs vs) (k:κ):j6_ (hO_ kvs k) (valueAt vs k):=by
 unfold KV at r;induction r with
 |nil=>exact True.intro
 | @cons p q ps qs h t ih=>
  obtain⟨h1,h2⟩:=h;by_cases e:p.1=k
  .have e':q.1=k:=h1.symm.trans e;have b:valueAt (q::qs) k=some q.2:=by simp [valueAt,Bh,e']
   rw [fI_ e,b];exact h2
  .have e':¬q.1=k:=fun z=>e (h1.trans z);have b:valueAt (q::qs) k=valueAt qs k:=by simp [valueAt,Bh,e']
   rw [fJ_ e,b];exact ih
theorem KV.any {kvs:List (κ×V)}{vs:List (κ×Value)} (r:KV kvs vs) (k:κ):(kvs.any fun kv=>decide (kv.1=k))=vs.any fun kv=>decide (kv.1=k):=by
 unfold KV at r;induction r with
 |nil=>rfl
 |cons h t ih=>rw [List.any_cons,List.any_cons,ih,h.1]
theorem KV.repl {kvs:List (κ×V)}{vs:List (κ×Value)} (r:KV kvs vs) (k:κ) {y:V}{u:Value} (ry:be_ y u):
  KV (kvs.map fun kv=>if kv.1=k then(kv.1,y) else kv) (vs.map fun kv=>if kv.1=k then(kv.1,u) else kv):=by
 unfold KV at r⊢;induction r with
 |nil=>exact .nil
 | @cons p q ps qs h t ih=>
  rw [AW,AW];refine .cons ?_ ih;obtain⟨h1,h2⟩:=h;by_cases e:p.1=k
  .rw [A9 e,A9 (h1.symm.trans e)];exact⟨h1,ry⟩
  .rw [A7 e,A7 (fun z=>e (h1.trans z))];exact⟨h1,h2⟩
theorem KV.put {kvs:List (κ×V)}{vs:List (κ×Value)} (r:KV kvs vs) (k:κ) {y:V}{u:Value} (ry:be_ y u):KV (gR_ kvs k y) (stored vs k u):=by
 unfold gR_ stored;rw [r.any k];by_cases e:(vs.any fun kv=>decide (kv.1=k))=true
 .rw [A9 e,A9 e];exact r.repl k ry
 .rw [A7 e,A7 e];exact Paired.snoc r ⟨rfl,ry⟩
theorem KV.length {kvs:List (κ×V)}{vs:List (κ×Value)} (r:KV kvs vs):kvs.length=vs.length:=Bz r
end
theorem lw_ {P:Program}{w:World}{k:Key}{u:Value} (r:be_ (kV k) u):(bb_ P w).is k u=true:=by
 cases k with
 |inl i=>obtain⟨t,e⟩:=(show∃t,u=Value.int i t from r);subst e;exact ic_ P w i t
 |inr x=>obtain⟨t,e⟩:=(show∃t,u=Value.str x t from r);subst e;exact ib_ P w x t
theorem hk_ {P:Program}{w:World}:∀{ks:List Key}{us:List Value},aV_ (ks.map kV) us->ItemsAre (bb_ P w) ks us
 |[],_,r=>by rw [List.map_nil] at r;cases r;exact .nil
 |k::ks,_,r=>by
  rw [AW] at r;cases r with
  |cons h t=>exact .cons (lw_ h) (hk_ t)
abbrev KT (H:Hp):List (List Key×V)->List (List Key×Addr×Value)->Prop:=Paired fun p q=>p.1=q.1/\H q.2.1=some (.tup (p.1.map kV))/\be_ p.2 q.2.2
theorem KT.val {H:Hp}{kvs:List (List Key×V)}{xs:List (List Key×Addr×Value)} (r:KT H kvs xs) (k:List Key):j6_ (hO_ kvs k) ((atKey xs k).map (·.2)):=by
 induction r with
 |nil=>exact True.intro
 | @cons p q ps qs h t ih=>
  obtain⟨h1,_,h2⟩:=h;by_cases e:p.1=k
  .have e':q.1=k:=h1.symm.trans e;have b:atKey (q::qs) k=some q.2:=by simp [atKey,Bh,e']
   rw [fI_ e,b];exact h2
  .have e':¬q.1=k:=fun z=>e (h1.trans z);have b:atKey (q::qs) k=atKey qs k:=by simp [atKey,Bh,e']
   rw [fJ_ e,b];exact ih
theorem KT.repl {H:Hp}{kvs:List (List Key×V)}{xs:List (List Key×Addr×Value)} (r:KT H kvs xs) (k:List Key) {y:V}{u:Value} (ry:be_ y u):
  KT H (kvs.map fun kv=>if kv.1=k then(kv.1,y) else kv) (xs.map (putAt k u)):=by
 induction r with
 |nil=>exact .nil
 | @cons p q ps qs h t ih=>
  rw [AW,AW];refine .cons ?_ ih;obtain⟨h1,h2,h3⟩:=h;unfold putAt;by_cases e:p.1=k
  .rw [A9 e,A9 (h1.symm.trans e)];exact⟨h1,h2,ry⟩
  .rw [A7 e,A7 (fun z=>e (h1.trans z))];exact⟨h1,h2,h3⟩
theorem KT.put {H:Hp}{kvs:List (List Key×V)}{xs:List (List Key×Addr×Value)} (r:KT H kvs xs) (k:List Key) {b:Addr}{y:V}{u:Value} (hb:H b=some (.tup (k.map kV))) (ry:be_ y u):
  KT H (gR_ kvs k y) (storedH xs k b u):=by
 have e:(kvs.any fun kv=>decide (kv.1=k))=(atKey xs k).isSome:=by
  rw [iB_,(r.val k).isSome_eq,Option.isSome_map]
 unfold gR_ storedH;rw [e];by_cases q:(atKey xs k).isSome=true
 .rw [A9 q,A9 q];exact r.repl k ry
 .rw [A7 q,A7 q];exact Paired.snoc r ⟨rfl,hb,ry⟩
theorem KT.keeps {H H':Hp}{kvs:List (List Key×V)}{xs:List (List Key×Addr×Value)} (r:KT H kvs xs) (ht:∀b ys,H b=some (.tup ys)->H' b=some (.tup ys)):KT H' kvs xs:=
 Paired.mapP r fun _ _ z=>⟨z.1,ht _ _ z.2.1,z.2.2⟩
section
variable {P:Program}{w:World}{H:Hp}{h:Heap}{a:Addr}
theorem mv_ {u:HO} (ok:HOk P w H h) (e:Rd H a u):aQ_ P w H h a u:=e.ok ok
theorem j0_ {kvs:List (Key×V)} (ok:HOk P w H h) (e:Rd H a (.dK kvs)):kvs.length<=sizeLine/\(a==sysModules)=false/\∃vs,KV kvs vs/\h.DictOf (bb_ P w) a vs:=
 show aQ_ P w H h a (.dK kvs) from mv_ ok e
theorem r3_ {kvs:List (Key×V)} (ok:HOk P w H h) (e:H a=some (.dK kvs)):kvs.length<=sizeLine/\(a==sysModules)=false/\∃vs,KV kvs vs/\h.DictOf (bb_ P w) a vs:=j0_ ok (.inl e)
theorem fA_ {ks:List Key} (ok:HOk P w H h) (e:H a=some (.tup (ks.map kV))):(tupleKind (bb_ P w)).is h ks a:=by
 obtain⟨_,its,r,o,h1,h2,n,h3⟩:=(show aQ_ P w H h a (.tup (ks.map kV)) from ok a _ e);exact⟨o,its.toArray,n,h1,h2,h3,by simpa using hk_ r⟩
theorem jZ_ {kvs:List (List Key×V)} (ok:HOk P w H h) (e:Rd H a (.dT kvs)):kvs.length<=sizeLine/\(a==sysModules)=false/\
  ∃xs,KT H kvs xs/\h.DictOfH (tupleKind (bb_ P w)) a xs:=by
 obtain⟨z,y,xs,r,o,es,ep,h1,h2,h3,h4,h5⟩:=(show aQ_ P w H h a (.dT kvs) from mv_ ok e);refine⟨z,y,xs,r,o,es,ep,h1,h2,h3,h4,fun x hx=> ?_,h5⟩;have all:∀{l:List (List Key×V)}{m:List (List Key×Addr×Value)},KT H l m->∀x∈m,(tupleKind (bb_ P w)).is h x.1 x.2.1:=by
  intro l m q;induction q with
  |nil=>intro x hx;exact nomatch hx
  | @cons p q ps qs hq t ih=>
   intro x hx;rcases AN.mp hx with e|hx
   .subst e;exact fA_ ok (by rw [<-hq.1];exact hq.2.1)
   .exact ih x hx
 exact all r x hx
theorem qO_ {kvs:List (List Key×V)} (ok:HOk P w H h) (e:H a=some (.dT kvs)):kvs.length<=sizeLine/\(a==sysModules)=false/\
  ∃xs,KT H kvs xs/\h.DictOfH (tupleKind (bb_ P w)) a xs:=jZ_ ok (.inl e)
end
def j7_ (H:Hp) (a:Addr) (y:V) (r:Option V):Prop:=
 (∃kvs k,Rd H a (.dK kvs)/\y=kV k/\r=hO_ kvs k)\/∃kvs k b,Rd H a (.dT kvs)/\y= .ref b/\H b=some (.tup (k.map kV))/\r=hO_ kvs k
def pE_ (H:Hp) (a:Addr) (y v:V) (H':Hp):Prop:=
 (∃kvs k,H a=some (.dK kvs)/\y=kV k/\kvs.length<sizeLine/\H'=upd H a (.dK (gR_ kvs k v)))\/
 ∃kvs k b,H a=some (.dT kvs)/\y= .ref b/\H b=some (.tup (k.map kV))/\kvs.length<sizeLine/\H'=upd H a (.dT (gR_ kvs k v))
theorem j7_.t {H:Hp}{a b:Addr}{kvs:List (List Key×V)}{k:List Key} (e:H a=some (.dT kvs)) (eb:H b=some (.tup (k.map kV))):j7_ H a (.ref b) (hO_ kvs k):= .inr ⟨kvs,k,b, .inl e,rfl,eb,rfl⟩
theorem pE_.t {H:Hp}{a b:Addr}{kvs:List (List Key×V)}{k:List Key}{v:V} (e:H a=some (.dT kvs)) (eb:H b=some (.tup (k.map kV))) (hl:kvs.length<sizeLine):
  pE_ H a (.ref b) v (upd H a (.dT (gR_ kvs k v))):= .inr ⟨kvs,k,b,e,rfl,eb,hl,rfl⟩
section
variable {X:Cx}{pins:List (Addr×Obj)}{σ:St}{H:Hp}{s:Shared}{a:Addr}{y v:V}{u r:Value}{o:Option V}{A:Around}{E:Value->Shared->Prop}
theorem Inv.big (I:Inv X pins σ H s):sysModules<s.heap.objs.size:=by
 have h:mainGlobals<s.heap.objs.size:=(I.mod.glob.keeps I.bk).lt;exact Nat.lt_trans (by decide) h
theorem lW_ {Q:Value->Shared->Prop} (hu:A.units+1<cLine) (I:Inv X pins σ H s) (g:j7_ H a y (some v)) (ry:be_ y u) (h:∀w' s',Inv X pins σ H s'->be_ v w'->Q w' s'):
  wpAny (model X.prog X.w) A (getItem (.ref a) u) Q E s:=by
 rcases g with⟨kvs,k,e,ey,l⟩|⟨kvs,k,b,e,ey,eb,l⟩
 .subst ey;obtain⟨z,hd,vs,rel,dd⟩:=j0_ I.hok e;obtain⟨w',hw,rw'⟩:=j6_.some_of (v:=v) (o:=valueAt vs k) (by rw [l];exact rel.val k);exact wpAny_getItem_of (lw_ ry) dd.mapOf hw (h w' _ (I.tok _) rw')
 .subst ey;cases (show u=Value.ref b from ry);obtain⟨z,hd,xs,rel,dd⟩:=jZ_ I.hok e;obtain⟨w',hw,rw'⟩:=j6_.some_of (v:=v) (o:=(atKey xs k).map (·.2)) (by rw [l];exact rel.val k);obtain⟨p,hp,hp2⟩:=A4.mp hw;refine wpAny_getItem_heap (DB hu) (fA_ I.hok eb) dd hp ?_;rw [hp2];exact h w' _ (I.tok _) rw'
theorem pe_ {Q:Value->Shared->Prop} (hu:A.units+1<cLine) (I:Inv X pins σ H s) (g:j7_ H a y o) (ry:be_ y u) (h:∀s',Inv X pins σ H s'->Q (.bool (!o.isSome)) s'):
  wpAny (model X.prog X.w) A (compareOp .NotIn u (.ref a)) Q E s:=by
 rcases g with⟨kvs,k,e,ey,l⟩|⟨kvs,k,b,e,ey,eb,l⟩
 .subst ey;obtain⟨z,hd,vs,rel,dd⟩:=j0_ I.hok e;refine wpAny_notIn_of (lw_ ry) hd dd.mapOf ?_;rw [<-(rel.val k).isSome_eq,<-l];exact h _ (I.tok _)
 .subst ey;cases (show u=Value.ref b from ry);obtain⟨z,hd,xs,rel,dd⟩:=jZ_ I.hok e;refine wpAny_notIn_heap (DB hu) (fA_ I.hok eb) hd dd ?_;have q:=(rel.val k).isSome_eq;rw [Option.isSome_map] at q;rw [<-q,<-l];exact h _ (I.tok _)
theorem gu_ {h':Heap}{t':Nat}{ob:HO} (I:Inv X pins σ H s) (mu:Mut (H a)) (hs:Heap.SameBut a s.heap h') (he:∃q,h'.get? a=some q) (new:aQ_ X.prog X.w (upd H a ob) h' a ob):
  Inv X pins σ (upd H a ob) {s with heap:=h',toks:=t'}:=
 I.write (x:=a) (e:=a) mu (.inl rfl) (fun b q hb z=>(hs.2 b hb).trans z) he new
theorem qP_ {P:Program}{w:World}{H':Hp}{h':Heap}{kvs:List (Key×V)}{vs:List (Key×Value)} (z:kvs.length<=sizeLine) (hd:(a==sysModules)=false) (rel:KV kvs vs) (dd:h'.DictOf (bb_ P w) a vs):
  aQ_ P w H' h' a (.dK kvs):=⟨z,hd,vs,rel,dd⟩
theorem lV_ {H':Hp}{Q:Unit->Shared->Prop} (hu:A.units+1<cLine) (I:Inv X pins σ H s) (g:pE_ H a y v H') (ry:be_ y u) (rv:be_ v r) (h:∀s',Inv X pins σ H' s'->Q () s'):
  wpAny (model X.prog X.w) A (setItem (.ref a) u r) Q E s:=by
 rcases g with⟨kvs,k,e,ey,l,eH⟩|⟨kvs,k,b,e,ey,eb,l,eH⟩
 .subst ey eH;obtain⟨z,hd,vs,rel,dd⟩:=r3_ I.hok e;have hz:vs.length<=sizeLine:=by rw [<-rel.length];exact z
  have hl:(gR_ kvs k v).length<=sizeLine:=by have:=eO_ kvs k v;lia
  refine wpAny_setItem_pairs (hsz:=hz) (lw_ ry) dd fun h' dd' hs=>h _ ?_;have he:∃q,h'.get? a=some q:=let ⟨q,_,_,hq,_⟩:=dd';⟨q,hq⟩;exact gu_ I (by rw [e];exact True.intro) hs he (qP_ hl hd (rel.put k rv) dd')
 .subst ey eH;cases (show u=Value.ref b from ry);obtain⟨z,hd,xs,rel,dd⟩:=qO_ I.hok e;have hz:xs.length<=sizeLine:=by rw [<-Bz rel];exact z
  have hl:(gR_ kvs k v).length<=sizeLine:=by have:=eO_ kvs k v;lia
  refine wpAny_setItem_heap (hsz:=hz) (DB hu) (fA_ I.hok eb) dd fun h' dd' hs=>h _ ?_;obtain⟨q,es,ep,hq,h2,h3,h4,_,h5⟩:=dd';refine gu_ I (by rw [e];exact True.intro) hs ⟨q,hq⟩ ⟨hl,hd,_,(rel.put k eb rv).keeps fun c ys ec=> ?_,q,es,ep,hq,h2,h3,h4,h5⟩;rw [aj_ (mH_ ec e (fun z=>nomatch z))];exact ec
end
section
variable {X:Cx}{pins:List (Addr×Obj)}{σ:St}{H:Hp}{s:Shared}{a:Addr}{kvs:List (Key×V)}{k:Key}{u:Value}{A:Around}{E:Value->Shared->Prop}
end
def sq_ (i:Expr):Prop:=∀ov iv,subscripted i false ov iv=operate [ov,iv] (getItem ov iv)
theorem od_ {prog:Program}{w:World}{A:Around}{E:Value->Shared->Prop}{s:Shared}{env:Env}{value slice:Expr}{pos:Pos}{T id:String}{Q:Value->Shared->Prop}
  (hl:typeLookup (.type T) "__getitem__"=pure (some (.builtin id))) (hs:sq_ slice)
  (h:wpAny (model prog w) A (eval value env) (fun o s₁=>wpAny (model prog w) A (eval slice env) (fun i s₂=>s₂.TypeIs o T/\wpAny (model prog w) A (getItem o i) Q E s₂) E s₁) E s):
  wpAny (model prog w) A (eval (.Subscript value slice pos) env) Q E s:=by
 refine Subscript_ (BH h (fun o s₁ h₁=>BH h₁ (fun i s₂ h₂=> ?_) fun _ _ x=>x) fun _ _ x=>x);obtain⟨hT,h₂⟩:=h₂;unfold subscriptTail;refine A0 ?_;rw [getitemInPython_of_ne hT.not_modules];refine A0 (wpAny_specialOf hT hl ?_);have fin:wpAny (model prog w) A (subscripted slice false o i) (fun r s₃=>wpAny (model prog w) A (letTemporaryGo value o r>>=fun _=>pure r) Q E s₃) E s₂:=by
  rw [hs o i];exact wpAny_operating (BH h₂ (fun r s₃ h₃=>A0 (wpAny_letTemporaryGo (A3 h₃))) fun _ _ x=>x)
 first
  |exact A3 (A0 fin)
  |exact A0 (A3 (A0 fin))
  |exact A0 fin
theorem io_ {X:Cx}{pins:List (Addr×Obj)}{σ:St}{H:Hp}{s:Shared}{a:Addr}{y:V}{o:Option V} (I:Inv X pins σ H s) (g:j7_ H a y o):s.TypeIs (.ref a) "dict":=by
 rcases g with⟨kvs,k,e,_,_⟩|⟨kvs,k,b,e,_,_,_⟩
 .obtain⟨_,_,vs,_,dd⟩:=j0_ I.hok e;exact dd.typeIs
 .obtain⟨_,_,xs,_,dd⟩:=jZ_ I.hok e;exact dd.typeIs
def rj_ (td ty:TE):TE:=fun σ H Q=>td σ H fun x H1=>ty σ H1 fun y H2=>∃a v,x= .ref a/\j7_ H2 a y (some v)/\Q v H2
def oc_ (ty td:TE):TE:=fun σ H Q=>ty σ H fun y H1=>td σ H1 fun x H2=>∃a o,x= .ref a/\j7_ H2 a y o/\Q (.bl (!o.isSome)) H2
def rG_ (td ty tv:TE):TS:=fun D σ H=>tv σ H fun v H1=>td σ H1 fun x H2=>ty σ H2 fun y H3=>∃a H4,x= .ref a/\pE_ H3 a y v H4/\D.nx σ H4
section
variable {X:Cx}{o i e value:Expr}{pos pos' tpos:Pos}{td ty tv:TE}
theorem kW_ (hu:X.A.units+1<cLine) (ho:PE X o td) (hi:PE X i ty) (hs:sq_ i):PE X (.Subscript o i pos) (rj_ td ty):=by
 intro pins s σ H Q I h;refine od_ PySem.F.slot_dict_getitem.lookup hs (thn (ho pins s σ H _ I h) fun u s1 ⟨x,H1,I1,rx,q1⟩=>thn (hi pins s1 σ H1 _ I1 q1) fun iv s2 ⟨y,H2,I2,ry,a,v,ex,g,q2⟩=> ?_);subst ex;obtain rfl:u=Value.ref a:=rx;exact⟨io_ I2 g,lW_ hu I2 g ry fun w' s3 I3 rw'=>⟨v,H2,I3,rw',q2⟩⟩
theorem kX_ (hu:X.A.units+1<cLine) (hi:PE X i ty) (ho:PE X o td):PC X .NotIn i o (oc_ ty td):=by
 intro pins s σ H Q I h;refine thn (hi pins s σ H _ I h) fun iv s1 ⟨y,H1,I1,ry,q1⟩=>thn (ho pins s1 σ H1 _ I1 q1) fun u s2 ⟨x,H2,I2,rx,a,ov,ex,g,q2⟩=> ?_;subst ex;obtain rfl:u=Value.ref a:=rx;exact pe_ hu I2 g ry fun s3 I3=>⟨.bl (!ov.isSome),H2,I3,rfl,q2⟩
theorem kM_ (hu:X.A.units+1<cLine) (ho:PE X o td) (hi:PE X i ty) (hv:PE X value tv) (hs:swapsWith value (some (.Subscript o i pos')) pos.line X.env=pure false):
  PS X (.Assign [.Subscript o i pos'] value pos) (rG_ td ty tv):=by
 intro pins s σ H D I h;refine wpAny_Assign_Subscript (thn (hv pins s σ H _ I h) fun r s1 ⟨v,H1,I1,rv,q1⟩=>thn (ho pins s1 σ H1 _ I1 q1) fun u s2 ⟨x,H2,I2,rx,q2⟩=>thn (hi pins s2 σ H2 _ I2 q2) fun iv s3 ⟨y,H3,I3,ry,a,H4,ex,g,q3⟩=> ?_) hs;subst ex;obtain rfl:u=Value.ref a:=rx;exact lV_ hu I3 g ry rv fun s4 I4=>⟨σ,H4,I4,q3⟩
end
theorem js_ {P:Program}{w:World}{H:Hp} (h:Heap) (hb:sysModules<h.objs.size):aQ_ P w H (h.push {cls:= .type "dict",data:= .dict #[]}) h.objs.size (.dT []):=
 ⟨AT _,beq_eq_false_iff_ne.mpr (Ne.symm (AI hb)),[], .nil,_, #[],0,AH _ rfl,⟨rfl,rfl,rfl⟩,rfl,rfl,List.nodup_nil⟩
def pO_:TE:=fun _ H Q=>∀p,H p=none->Q (.ref p) (upd H p (.dT []))
section
variable {X:Cx}{pos:Pos}
theorem iP_:PE X (.Dict [] [] pos) pO_:=fun pins s σ H Q I h=>
 wpAny_Dict_empty ⟨.ref s.heap.objs.size,_,I.laid (a:=s.heap.objs.size) (o:= .dT []) (t':=s.toks) (fun _ _ q=>AB _ q) (A5 _) (js_ s.heap I.big),rfl,h _ (I.hok.fresh (A5 _))⟩
end
structure M2 (X:Cx) (o:Expr) (m:Str) (apos:Pos) (e f:Expr) (cpos:Pos):Prop where
 base:attributeBase o m X.env (eval o X.env)=eval o X.env
 few:((backTo cpos (starEach [e,f] X.env)).all (fun x=> !x.1)&&(backToKw cpos (keywordEach [] X.env)).all (fun x=>x.1.isSome)
  &&decide (([e,f]:List Expr).length+([]:List Keyword).length+(if([]:List Keyword).isEmpty then 0 else 1)<30))=true
 line:(apos.endLine==cpos.line)=true
 trees:backTo cpos (starEach [e,f] X.env)=[(false,eval e X.env),(false,eval f X.env)]
def IsD (H:Hp) (a:Addr):Prop:=(∃kvs,Rd H a (.dK kvs))\/∃kvs,Rd H a (.dT kvs)
theorem nE_ {X:Cx}{pins:List (Addr×Obj)}{σ:St}{H:Hp}{s:Shared}{a:Addr} (I:Inv X pins σ H s) (d:IsD H a):
  s.TypeIs (.ref a) "dict"/\(∀b,Value.ref a= .ref b->∃ob,s.heap.get? b=some ob/\ob.dict=none)/\(a==sysModules)=false:=by
 rcases d with⟨kvs,e⟩|⟨kvs,e⟩
 .obtain⟨_,hd,vs,_,dd⟩:=j0_ I.hok e;refine⟨dd.typeIs,fun b q=> ?_,hd⟩;cases q;obtain⟨ob,_,_,h1,h2,_⟩:=dd;exact⟨ob,h1,h2.2.1⟩
 .obtain⟨_,hd,xs,_,dd⟩:=jZ_ I.hok e;refine⟨dd.typeIs,fun b q=> ?_,hd⟩;cases q;obtain⟨ob,_,_,h1,h2,_⟩:=dd;exact⟨ob,h1,h2.2.1⟩
section
variable {X:Cx}{pins:List (Addr×Obj)}{σ:St}{H:Hp}{s:Shared}{a:Addr}{y d:V}{u r:Value}{o:Option V}{A:Around}{E:Value->Shared->Prop}
theorem qQ_ {Q:Value->Shared->Prop} (hu:A.units+1<cLine) (I:Inv X pins σ H s) (g:j7_ H a y o) (ry:be_ y u) (rd:be_ d r) (h:∀w' s',Inv X pins σ H s'->be_ (o.getD d) w'->Q w' s'):
  wpAny (model X.prog X.w) A (call (.builtin "dict.get") [.ref a,u,r]) Q E s:=by
 rcases g with⟨kvs,k,e,ey,l⟩|⟨kvs,k,b,e,ey,eb,l⟩
 .subst ey;obtain⟨z,hd,vs,rel,dd⟩:=j0_ I.hok e;refine call_meetsIn PySem.F.slot_dict_get dd.typeIs PySem.F.entry_dict_get (PySem.F.args_dict_get_3 _ _ _) (meets_dict_get_default (bb_ X.prog X.w) a (lw_ ry) hd r) ⟨_,dd.mapOf,h _ _ (I.tok _) ?_⟩;rw [l];exact(rel.val k).getD rd
 .subst ey;cases (show u=Value.ref b from ry);obtain⟨z,hd,xs,rel,dd⟩:=jZ_ I.hok e;refine call_meetsIn PySem.F.slot_dict_get dd.typeIs PySem.F.entry_dict_get (PySem.F.args_dict_get_3 _ _ _) (meetsH_dict_get_default (tupleKind (bb_ X.prog X.w)) a b hd r) ⟨DB hu,k,xs,fA_ I.hok eb,dd,h _ _ (I.tok _) ?_⟩;rw [l];exact(rel.val k).getD rd
end
def pP_ (td ty tx:TE):TE:=fun σ H Q=>td σ H fun x H1=>∃a,x= .ref a/\IsD H1 a/\ty σ H1 fun y H2=>tx σ H2 fun z H3=>∃o,j7_ H3 a y o/\Q (o.getD z) H3
section
variable {X:Cx}{o e f:Expr}{apos cpos:Pos}{td ty tx:TE}
theorem mB_ (hu:X.A.units+1<cLine) (ho:PE X o td) (he:PE X e ty) (hf:PE X f tx) (m:M2 X o "get" apos e f cpos):PE X (.Call (.Attribute o "get" apos) [e,f] [] cpos) (pP_ td ty tx):=by
 intro pins s σ H Q I h;refine wpAny_Call_method m.base m.few m.line PySem.F.plainAttrs_dict PySem.F.slot_dict_get PySem.F.type_dict_get (thn (ho pins s σ H _ I h) fun u s1 ⟨x,H1,I1,rx,a,ex,d,q1⟩=> ?_);subst ex;obtain rfl:u=Value.ref a:=rx;obtain⟨t1,t2,_⟩:=nE_ I1 d;refine⟨t1,t2, ?_⟩;rw [m.trees];refine Cq rfl (Calls.evalArgs_plain (Cf (thn (he pins s1 σ H1 _ I1 q1) fun iv s2 ⟨y,H2,I2,ry,q2⟩=>
  Cf (thn (hf pins s2 σ H2 _ I2 q2) fun fv s3 ⟨z,H3,I3,rz,ov,g,q3⟩=>Calls.spliced_nil ?_))))
 exact qQ_ hu I3 g ry rz fun w' s4 I4 rw'=>⟨_,H3,I4,rw',q3⟩
end
section
variable {X:Cx}{pins:List (Addr×Obj)}{σ:St}{H:Hp}{s:Shared}{a:Addr}{kvs:List (Key×V)}{A:Around}{E:Value->Shared->Prop}
end
section
variable {X:Cx}{pins:List (Addr×Obj)}{σ:St}{H:Hp}{s:Shared}{a:Addr}{y:V}{u:Value}{A:Around}{E:Value->Shared->Prop}
end
end L2
namespace L2
open PySem PySem.Spec PyProof.Rows
section
variable {X:Cx}{pos:Pos}{a b c d:Expr}{ta tb tc td:TE}
def CB (m:Nat) (i j:Int):Prop:=i.natAbs<2^m/\j.natAbs<2^m
theorem bs_ {m:Nat} (hm:m+m<=134217728):OpR X (binaryOp .Mult) (rI (CB m) fun i j=> .int (i*j)):=
 opI fun _ _ _ _ _ _ _ hc q=>mul_int q (IntMulOk.of_le (intBits_le_iff.mpr hc.1) (intBits_le_iff.mpr hc.2) hm)
theorem dx_:512+512<=134217728:=by decide
theorem ei_:ca_ X (.builtin "isinstance") (fun xs H Q=>∃x n t b,xs=[x, .ty n]/\TyOf X.K H x t/\W.kitOne X.K t (.type n)=some b/\Q (.bl b) H):=by
 intro pins s σ H xs us Q I r h;obtain⟨x,n,t,b,rfl,ty,e,q⟩:=h;obtain⟨u,w',rfl,ru,rw'⟩:=kd_ r;obtain rfl:w'=Value.type n:=rw';exact lB_ I ru ty e fun tk=>⟨.bl b,H,I.tok tk,rfl,q⟩
end
section
open PySem.W
variable {K:Frag}
theorem ja_ {t:String}:kitOne K (.type t) (.type t)=some true:=by
 unfold kitOne;rw [A9 (by simp)]
theorem fz_ {t c:String}{b:Bool} (h1:(Value.type t==Value.type c)=false) (h2:kitMeta c=true) (h3:(fastBuiltinMro t).map (·.contains (Value.type c))=some b):kitOne K (.type t) (.type c)=some b:=by
 unfold kitOne;rw [A7 (by rw [h1];decide)];unfold kitCls;show(if kitMeta c=true then subIn K (.type t) (.type c) else none)=some b;rw [A9 h2];exact h3
theorem dY_:kitOne K (.type "int") (.type "bool")=some false:=fz_ (by ac_nf) (by ac_nf) (by ac_nf)
theorem hi_:kitOne K (.type "bool") (.type "int")=some true:=fz_ (by ac_nf) (by ac_nf) (by ac_nf)
end
theorem eS_ {c A B:Prop} [Decidable c] (h1:c->A) (h2:¬c->B):if decide c=true then A else B:=by
 by_cases h:c
 .rw [A9 (Ah h)];exact h1 h
 .rw [A7 (by rw [AR h];decide)];exact h2 h
theorem qF_ {c A B:Prop} [Decidable c] (h1:¬c->A) (h2:c->B):if(!decide c)=true then A else B:=by
 by_cases h:c
 .rw [A7 (by rw [Ah h];decide)];exact h2 h
 .rw [A9 (by rw [AR h];rfl)];exact h1 h
theorem lA_ {A B:Prop}{i j:Int} (h1:i=j->A) (h2:i≠j->B):if decide (V.int i=V.int j)=true then A else B:=eS_ (fun h=>h1 (V.int.inj h)) fun h=>h2 fun e=>h (BW V.int e)
theorem rV_ {A B:Prop}{i j:Int} (h1:i≠j->A) (h2:i=j->B):if(!decide (V.int i=V.int j))=true then A else B:=qF_ (fun h=>h1 fun e=>h (BW V.int e)) fun h=>h2 (V.int.inj h)
theorem ak_.put {H H1:Hp}{l:Addr}{o:HO} (s:ak_ H H1) (n:H l=none):ak_ H (upd H1 l o):=fun b u e=>by
 rw [aj_ (ao_ e n)];exact s b u e
theorem ak_.new {H:Hp}{l:Addr}{o:HO} (n:H l=none):ak_ H (upd H l o):=(ak_.refl H).put n
end L2
namespace L2
open PySem PySem.Spec PyProof.Rows
theorem lX_ {prog:Program}{w:World}{A:Around}{R:Result->Shared->Prop}{s:Shared}{elt target iter:Expr}{ifs:List Expr}{scope:Scope}{pos:Pos}{it acc:Value}{env:Env} (I:Nat->Shared->Prop)
  (turn:∀n s,I n s->wpAny (model prog w) A (pyNext it) (fun r s₁=>match r with
   |none=>R (.ok .next) s₁
   |some v=>wpAny (model prog w) A (letOwnedTupleGo target it v) (fun _ s₁'=>wpAny (model prog w) A (assign target env v) (fun _ s₂=>
     wpAny (model prog w) A (forIn ifs true fun c r=>if r=true then do let ok<-isTrue c env (eval c env);pure (ForInStep.yield ok) else pure (ForInStep.yield r)) (fun ok s₃=>
      if ok=true then wpAny (model prog w) A (eval elt env) (fun x s₄=>
       wpAny (model prog w) A (call (.builtin "list.append") [acc,x]) (fun _ s₅=>∃m,m<n/\I m s₅) (notedBy (model prog w) A env fun e s'=>R (.error e) s') s₄) (notedBy (model prog w) A env fun e s'=>R (.error e) s') s₃
      else∃m,m<n/\I m s₃) (notedBy (model prog w) A env fun e s'=>R (.error e) s') s₂) (notedBy (model prog w) A env fun e s'=>R (.error e) s') s₁') (notedBy (model prog w) A env fun e s'=>R (.error e) s') s₁) (notedBy (model prog w) A env fun e s'=>R (.error e) s') s)
  (n:Nat) (h:I n s):
  codeAny (model prog w) A (.compLoop (.ListComp elt [⟨target,iter,ifs,0⟩] scope pos) 0 it acc env) R s:=by
 refine codeAny_loop rfl I (fun n s hI=> ?_) n h;show wpAny _ A ((compTurn (.ListComp elt [⟨target,iter,ifs,0⟩] scope pos) 0 it acc env).onRaise (fun x=>do noteFrame x env;theTreesLotGoes x)) _ _ s;refine wpAny_noted ?_;rw [compTurn_list];refine A0 (wpAny_standAt (A0 (BH (turn n s hI) (fun r s₁ h₁=> ?_) fun _ _ h'=>h')));cases r with
 |none=>exact A3 h₁
 |some v=>
  refine A0 (BH h₁ (fun _ s₁' h₁'=>A0 (BH h₁' (fun _ s₂ h₂=>A0 (BH h₂ (fun ok s₃ h₃=> ?_) fun _ _ h'=>h')) fun _ _ h'=>h')) fun _ _ h'=>h');cases ok with
  |false=>exact A3 ⟨rfl,h₃⟩
  |true=>
   exact A0 (A0 (BH h₃ (fun x s₄ h₄=>A0 (BH h₄ (fun _ s₅ h₅=>A3 (A3 ⟨rfl,h₅⟩)) fun _ _ h'=>h')) fun _ _ h'=>h'))
def ir_ (env:Env):List (Str×NameKind)->List (Str×Addr)->List (Str×Addr)
 |[],cs=>cs
 |(n,k)::r,cs=>ir_ env r (if k= .free then(n,(env.cells.lookup n).getD 0)::cs else cs)
theorem gv_ {env:Env}:∀(ns:List (Str×NameKind)) (cs:List (Str×Addr)),(∀y∈ns,y.2= .free->∃c,env.cells.lookup y.1=some c)->
  (forIn ns cs fun(x:Str×NameKind) (r:List (Str×Addr))=>(if(x.2== .free)=true then do let c<-cellOf env x.1;pure (ForInStep.yield ((x.1,c)::r)) else pure (ForInStep.yield r):Sem (ForInStep (List (Str×Addr)))))=(pure (ir_ env ns cs):Sem _)
 |[],cs,_=>rfl
 |(n,k)::r,cs,h=>by
  have hr:=fun y hy=>h y (At _ hy);by_cases hk:k= .free
  .obtain⟨c,hc⟩:=h (n,k) BA hk;subst hk;rw [List.forIn_cons];have e:cellOf env n=pure c:=by unfold cellOf;rw [hc]
   simp only [beq_self_eq_true,CI,e,pure_bind];rw [gv_ r _ hr];show _=pure (ir_ env r (if NameKind.free=NameKind.free then(n,(env.cells.lookup n).getD 0)::cs else cs));rw [A9 rfl,show env.cells.lookup n=some c from hc];rfl
  .have hb:(k==NameKind.free)=false:=by simpa using hk
   rw [List.forIn_cons];simp only [hb,AJ,As,pure_bind];rw [gv_ r _ hr];show _=pure (ir_ env r (if k=NameKind.free then(n,(env.cells.lookup n).getD 0)::cs else cs));rw [A7 hk]
theorem j1_ {env:Env}{scope:Scope} (h:∀y∈scope.names,y.2= .free->∃c,env.cells.lookup y.1=some c):closureFor scope env=pure (ir_ env scope.names []):=by
 unfold closureFor;have e:=gv_ scope.names [] h;simp only [bind_pure] at e⊢;exact e
theorem e3_ {env:Env}{x:Str}{c:Addr}:∀(ns:List (Str×NameKind)) (cs:List (Str×Addr)),(∀y∈ns,y.2= .free->∃c,env.cells.lookup y.1=some c)->(∀x c,cs.lookup x=some c->env.cells.lookup x=some c)->
  (ir_ env ns cs).lookup x=some c->env.cells.lookup x=some c
 |[],cs,_,hc,e=>hc x c e
 |(n,k)::r,cs,h,hc,e=>by
  unfold ir_ at e;refine e3_ r _ (fun y hy=>h y (At _ hy)) (fun x' c' e'=> ?_) e;by_cases hk:k= .free
  .rw [A9 hk] at e';obtain⟨c0,h0⟩:=h (n,k) BA hk;rw [h0] at e';rw [CJ] at e';by_cases q:x'==n
   .rw [q] at e';cases e';rw [Ch.mp q];exact h0
   .have q':(x'==n)=false:=by simpa using q
    rw [q'] at e';exact hc x' c' e'
  .rw [A7 hk] at e';exact hc x' c' e'
theorem hv_ {env:Env}{x:Str}:∀(ns:List (Str×NameKind)) (cs:List (Str×Addr)),(∃c,cs.lookup x=some c)->∃c,(ir_ env ns cs).lookup x=some c
 |[],cs,h=>h
 |(n,k)::r,cs,h=>by
  unfold ir_;refine hv_ r _ ?_;by_cases hk:k= .free
  .rw [A9 hk,CJ];by_cases q:x==n
   .rw [q];exact⟨_,rfl⟩
   .have q':(x==n)=false:=by simpa using q
    rw [q'];exact h
  .rw [A7 hk];exact h
theorem gw_ {env:Env}{x:Str}:∀(ns:List (Str×NameKind)) (cs:List (Str×Addr)),(x,NameKind.free)∈ns->∃c,(ir_ env ns cs).lookup x=some c
 |(n,k)::r,cs,h=>by
  unfold ir_;rcases AN.mp h with e|e
  .cases e;rw [A9 rfl];exact hv_ r _ ⟨_,by rw [CJ,beq_self_eq_true]⟩
  .exact gw_ r _ e
def Cx.comp (X:Cx) (scope:Scope) (C:Addr) (N:List Str) (s₀:Shared) (H₀:Hp) (ex:List Addr) (E:Value->Shared->Prop):Cx where
 prog:=X.prog
 w:=X.w
 K:=X.K
 mg:=X.mg
 base:=X.base
 A:=X.A
 N:=N
 s₀:=s₀
 H₀:=H₀
 env:=compEnvC scope (ir_ X.env scope.names []) C X.env
 outer:=X.stack
 stack:=X.stack
 ex:=ex
 fn:=fun _=>false
 calm:=X.calm
 pn:=[]
 xe:=E
def pu_ (X:Cx) (ifs:List Expr) (t:TT):Prop:=
 ∀(pins:List (Addr×Obj)) (s:Shared) (σ:St) (H:Hp) (Q:Bool->Hp->Prop),Inv X pins σ H s->t σ H Q->
  wpAny (model X.prog X.w) X.A (forIn ifs true fun c r=>if r=true then do let ok<-isTrue c X.env (eval c X.env);pure (ForInStep.yield ok) else pure (ForInStep.yield r)) (TP X pins σ Q) X.xe s
def pK_:TT:=fun _ H Q=>Q true H
theorem bO_ {X:Cx}:pu_ X [] pK_:=fun _ _ _ H _ I h=>wpAny_tests_nil ⟨H,I,h⟩
theorem eb_ {X:Cx}{c:Expr}{t:TT} (h:PT X c t):pu_ X [c] t:=fun pins s σ H Q I q=>wpAny_tests_one (h pins s σ H Q I q)
def lZ_ (own:Nat) (js:List Nat) (σ:St):St:=List.replicate own none++js.map fun j=>(σ[j]?).getD none
def ng_ (J:It) (own:Nat) (js:List Nat) (g:TG) (ti:TT) (te:TE) (σ:St) (H1:Hp) (acc:Addr) (Q:VK):Prop:=
 ∃Wq:Nat->Nat->Hp->Prop,(∃m,Wq 0 m (upd H1 acc (.lst [])))/\∀i m H2,Wq i m H2->
  (J.stop i H2/\Q (.ref acc) H2)\/(J.go i H2/\∀x H3,J.yld i H2 x H3->g x (lZ_ own js σ) H3 fun σ4 H4=>ti σ4 H4 fun b H5=>
   if b=true then te σ4 H5 fun y H6=>ev_ (.ref acc) [y] H6 fun _ H7=>∃m',m'<m/\Wq (i+1) m' H7 else∃m',m'<m/\Wq (i+1) m' H5)
def ko_ (own:Nat) (js:List Nat) (wi:TI) (g:TG) (ti:TT) (te:TE):TE:=fun σ H Q=>wi σ H fun J H1=>∀acc,H1 acc=none->ng_ J own js g ti te σ H1 acc Q
end L2
namespace L2
open PySem PySem.Spec PyProof.Rows
theorem n8_ {α:Type}{t:Sem α}{Q Q':α->Shared->Prop}{M:Model}{A:Around}{E:Value->Shared->Prop}{s:Shared} (h:wpAny M A t Q (fun _ _=>False) s) (hQ:∀a s,Q a s->Q' a s):wpAny M A t Q' E s:=BH h hQ fun _ _ f=>f.elim
theorem cG_ {scope:Scope}{env:Env}{x:Str}:∀{names:List (Str×NameKind)},((names.map fun(n,k)=>if(k==NameKind.free&&env.scope.kind== .function&&env.kindOf n==some .cell) then(n,NameKind.cell) else(n,k)).lookup x=some .cell\/
  (names.map fun(n,k)=>if(k==NameKind.free&&env.scope.kind== .function&&env.kindOf n==some .cell) then(n,NameKind.cell) else(n,k)).lookup x=some .free)->(∀y∈names,y.2≠ .cell)->(x,NameKind.free)∈names
 |[],h,_=>by simp at h
 |(n,k)::r,h,hc=>by
  have hr:∀y∈r,y.2≠ .cell:=fun y hy=>hc y (At _ hy);have h0:k≠ .cell:=hc (n,k) BA;rw [AW,CJ] at h;by_cases hb:(k==NameKind.free&&env.scope.kind== .function&&env.kindOf n==some .cell)=true
  .rw [A9 hb] at h;dsimp only at h;by_cases q:x==n
   .have hk:k= .free:=by simp only [AE,Ch] at hb;exact hb.1.1
    rw [Ch.mp q,hk];exact BA
   .have q':(x==n)=false:=by simpa using q
    rw [q'] at h;exact At _ (cG_ (scope:=scope) h hr)
  .rw [A7 hb] at h;dsimp only at h;by_cases q:x==n
   .rw [q] at h;dsimp only at h;have hk:k= .free:=by
     rcases h with h|h
     .exact absurd (Ap h) h0
     .exact Ap h
    rw [Ch.mp q,hk];exact BA
   .have q':(x==n)=false:=by simpa using q
    rw [q'] at h;exact At _ (cG_ (scope:=scope) h hr)
def n0_ (own:Nat) (g:TG):Prop:=∀v σ H (Q:St->Hp->Prop),g v σ H Q->g v σ H fun σ' H'=>Q σ' H'/\σ'.length=σ.length/\∀i,own<=i->σ'[i]? =σ[i]?
theorem a1_ {i own:Nat} (h:i<own):n0_ own (bS_ i):=fun v σ H Q q=>⟨q,Bw ..,fun j hj=>by rw [BS (by lia)]⟩
theorem is_ (own:Nat) (js:List Nat) (σ:St):(lZ_ own js σ).length=own+js.length:=by simp [lZ_]
theorem hw_ {own:Nat}{js:List Nat}{σ:St}{i:Nat}{v:V} (h:(lZ_ own js σ)[i]? =some (some v)):own<=i/\∃j,js[i-own]? =some j/\σ[j]? =some (some v):=by
 unfold lZ_ at h;by_cases hi:i<own
 .rw [List.getElem?_append_left (by simpa using hi),List.getElem?_replicate,A9 hi] at h;cases h
 .rw [D5 (by simpa using hi),Am,A6] at h;refine⟨by lia, ?_⟩;cases e:js[i-own]? with
  |none=>rw [e] at h;cases h
  |some j=>
   rw [e] at h;refine⟨j,rfl, ?_⟩;have h':(σ[j]?).getD none=some v:=Ap h;cases e2:σ[j]? with
   |none=>rw [e2] at h';cases h'
   |some o=>rw [e2] at h';exact BW some h'
theorem hs_ {X:Cx}{elt tg iter:Expr}{ifs:List Expr}{scope:Scope}{pos ps:Pos}{N:List Str}{own:Nat}{js:List Nat}{wi:TI}{g:TG}{ti:TT}{te:TE} (hc:X.calm=true)
  (hcell:∀y∈scope.names,y.2≠ .cell) (hkind:scope.kind= .function) (hnames:∀y∈scope.names,y.2= .local->scope.names.lookup y.1=some .local)
  (hfree:∀y∈scope.names,y.2= .free->X.env.kindOf y.1=some .cell\/X.env.kindOf y.1=some .free) (hlen:N.length=own+js.length)
  (hcap:∀(i j:Nat) (x:Str),js[i]? =some j->N[own+i]? =some x->X.N[j]? =some x/\(x,NameKind.free)∈scope.names/\(X.env.kindOf x=some .cell\/X.env.kindOf x=some .free)/\((relabel scope X.env).names.lookup x=some .cell\/(relabel scope X.env).names.lookup x=some .free))
  (hi:PI X tg iter wi) (hg:∀C s₀ H₀ ex,PG (X.comp scope C N s₀ H₀ ex fun _ _=>False) tg g) (ho:n0_ own g) (ht:∀C s₀ H₀ ex,pu_ (X.comp scope C N s₀ H₀ ex fun _ _=>False) ifs ti) (he:∀C s₀ H₀ ex,PE (X.comp scope C N s₀ H₀ ex fun _ _=>False) elt te)
  {pins:List (Addr×Obj)}{s:Shared}{σ:St}{H:Hp}{Q:VK}{use:Option (Value->Sem Unit)}{RQ:Value->Shared->Prop} (I:Inv X pins σ H s) (h:ko_ own js wi g ti te σ H Q)
  (fin:∀(acc C:Addr) (H3:Hp) (s4:Shared) (m:Str->Option Value),Inv X pins σ H3 s4->s4.heap.Ns C m->H3 C=none->C≠X.env.locals->C∉X.fs->X.s₀.heap.objs.size<=C->(∀x c,X.env.cells.lookup x=some c->c≠C)->(∀p∈X.pn++pins,p.1≠C)->
   Q (.ref acc) H3->compPost (model X.prog X.w) X.A X.xe use RQ (.ref acc) C (.ok .next) s4)
  (hs:∀x,foldedSetIterable iter X.env x=pure x:=by intro _;rfl):
  wpAny (model X.prog X.w) X.A (comprehension (.ListComp elt [⟨tg,iter,ifs,0⟩] scope pos) scope X.env ps (newList []) false (eval iter X.env) use) RQ X.xe s:=by
 have hcl:∀y∈scope.names,y.2= .free->∃c,X.env.cells.lookup y.1=some c:=fun y hy hf=>I.ok.has y.1 (hfree y hy hf);refine wpAny_comprehension_free (use:=use) rfl hs (j1_ hcl) hkind hnames (thn (hi pins s σ H _ I h) fun v s1 h1=>thn h1 fun itv s2 h2=> ?_);obtain⟨it,fp,tn,J,H2,e,I2,T,st2,f2,q⟩:=h2;subst e;have nf:H2 s2.heap.objs.size=none:=I2.hok.fresh (A5 _);obtain⟨Wq,⟨m0,w0⟩,turn⟩:=q s2.heap.objs.size nf;refine Aq (wpAny_newFunctionEnv hcell (by intro y hy;simp at hy) (fun h₁ hns₁ hsb₁=> ?_) hkind);dsimp only at hns₁ hsb₁⊢;generalize hP2:s2.heap.push {cls:= .type "list",dict:=none,data:= .seq ([]:List Value).toArray}=P2 at hns₁ hsb₁⊢;have hC:P2.objs.size=s2.heap.objs.size+1:=by rw [<-hP2,BU]
 have hC1:s2.heap.objs.size<P2.objs.size:=by rw [hC];exact Bc _
 have kp:∀b o,s2.heap.get? b=some o->h₁.get? b=some o:=fun b o e=>hsb₁.extBut b o (AI (Nat.lt_trans (AF e) hC1)) (AB _ (hP2▸AB _ e));have hacc:h₁.get? s2.heap.objs.size=some {cls:= .type "list",dict:=none,data:= .seq ([]:List Value).toArray}:=hsb₁.extBut _ _ (AI hC1) (AB _ (hP2▸AH _ rfl));have lkc:∀x c,(ir_ X.env scope.names []).lookup x=some c->X.env.cells.lookup x=some c:=fun x c e=>e3_ scope.names [] hcl (fun _ _ z=>by simp at z) e;have cne:∀x c,(ir_ X.env scope.names []).lookup x=some c->c<s2.heap.objs.size/\H2 c=none:=fun x c e=>by
  obtain⟨v,o,ho,hd⟩:=I2.cell x c (lkc x c e);exact⟨AF ho,I2.freeC x c (lkc x c e)⟩
 have fpl:∀b∈fp,b<s2.heap.objs.size:=fun b hb=>by
  obtain⟨o,e,_⟩:=T.obj 0 _ st2 b hb;exact AF e
 have hX:(X.comp scope P2.objs.size N s2 H2 fp fun _ _=>False).Ok:={
  mod:=I.ok.mod
  kind:=hkind
  glob:=I.ok.glob
  blt:=I.ok.blt
  above:=Az hC1
  inj:=fun x y c a b=>I.ok.inj x y c (lkc x c a) (lkc y c b)
  has:=fun x hx=>gw_ scope.names [] (cG_ (scope:=scope) (env:=X.env) hx hcell)
  cab:=fun x c a _=>by cases (show false=true from a)
  hd:=I.ok.hd
  frames:=I.ok.frames
  stk:= .inl rfl
  exf:=fun b hb=>⟨AI (Nat.lt_trans (fpl b hb) hC1),fun x c a=>(f2 b hb).2.2.2.2.1 x c (lkc x c a)⟩
  bs:=I2.bs
  bsz:=Ai I.ok.bsz I2.sz
  noex:=fun b o e hb=>by
   rcases(f2 b hb).2.2.2.1 with z|z
   .exact I.ok.noex b o e z
   .exact absurd (AY (AY (AF e) I.ok.bsz) z) (Bm _)
  exfs:=fun b hb z=>by
   rcases AN.mp (I2.stkSub b z) with z|z
   .exact(f2 b hb).2.1 z
   .exact(f2 b hb).2.2.1 z
  funs:=I2.stack
  frf:=I2.stkFree}
 have I3:∀tk,Inv (X.comp scope P2.objs.size N s2 H2 fp fun _ _=>False) [] (lZ_ own js σ) (upd H2 s2.heap.objs.size (.lst [])) {s2 with heap:=h₁,toks:=tk}:=fun tk=>{
  ok:=hX
  os:=rfl
  bare:=I2.bare
  base:=Un.laid kp (A5 _) nf
  loc:=⟨_,hns₁,fun i x v a b c=>by
   obtain⟨hio,j,hj,hv⟩:=hw_ b;obtain⟨h3,h4,h5,h6⟩:=hcap (i-own) j x hj (by rw [show own+(i-own)=i by lia];exact a);obtain⟨m,hn,hl⟩:=I2.loc;obtain⟨u,ru,lk⟩:=hl j x v h3 hv (.inr h5);refine⟨u,ru, .inr ⟨h6, ?_⟩⟩;rcases lk with⟨z,_⟩|⟨_,c0,z1,z2⟩
   .rcases h5 with h5|h5<;>(rw [h5] at z;cases z)
   .obtain⟨c1,hc1⟩:=gw_ (env:=X.env) scope.names [] h4;have:=lkc x c1 hc1;rw [z1] at this;cases this;obtain⟨o,ho,hd⟩:=z2;exact⟨c0,hc1,o,kp _ _ ho,hd⟩⟩
  cell:=fun x c a=>by
   obtain⟨v,o,ho,hd⟩:=I2.cell x c (lkc x c a);exact⟨v,o,kp _ _ ho,hd⟩
  free:=by
   show upd H2 _ _ P2.objs.size=none;rw [aj_ (C0 hC1)];exact I2.hok.fresh (Az hC1)
  freeC:=fun x c a=>by
   rw [aj_ (AI (cne x c a).1)];exact(cne x c a).2
  pin:=fun p hp=>absurd (show p∈([]:List (Addr×Obj)) from hp) (by simp)
  hok:=I2.hok.laid kp (A5 _) ⟨AT _,[],0, .nil,hacc⟩
  len:=by rw [is_];exact hlen.symm}
 have fr0:∀b∈fp,upd H2 s2.heap.objs.size (.lst []) b=none:=fun b hb=>by
  rw [aj_ (AI (fpl b hb))];exact(f2 b hb).1
 have st3:tn 0 h₁:=T.keep 0 _ _ st2 fun b _ o e=>kp b o e;have stat:∀{H':Hp},(∀b∈fp,H' b=none)->∀b∈fp,iy_ (X.comp scope P2.objs.size N s2 H2 fp fun _ _=>False) [] H' b:=fun hn b hb=>
  ⟨hn b hb,(hX.exf b hb).1,hX.exfs b hb, .inl hb,fun x c a=>(hX.exf b hb).2 x c a,fun p hp=>absurd (show p∈([]:List (Addr×Obj)) from hp) (by simp)⟩
 have loop:∀s₃:Shared,s₃={s2 with heap:=h₁,toks:=s2.toks+([]:List (Str×Value)).length}->
   codeAny (model X.prog X.w) X.A (.compLoop (.ListComp elt [⟨tg,iter,ifs,0⟩] scope pos) 0 (.ref it) (.ref s2.heap.objs.size) (compEnvC scope (ir_ X.env scope.names []) P2.objs.size X.env))
    (compPost (model X.prog X.w) X.A X.xe use RQ (.ref s2.heap.objs.size) P2.objs.size) s₃:=by
  rintro s₃ rfl;refine lX_ (fun n s'=>∃i H',Inv (X.comp scope P2.objs.size N s2 H2 fp fun _ _=>False) [] (lZ_ own js σ) H' s'/\tn i s'.heap/\(∀b∈fp,H' b=none)/\Wq i n H') ?_ m0 ⟨0,_,I3 _,st3,fr0,w0⟩;rintro n s3 ⟨i,H3,J3,t3,fr3,w3⟩;rcases turn i n H3 w3 with⟨stop,qd⟩|⟨go,step⟩
  .refine n8_ (T.done (X.comp scope P2.objs.size N s2 H2 fp fun _ _=>False) rfl rfl rfl hc i [] s3 _ H3 _ J3 (stat fr3) t3 stop) fun r s4 ⟨hr,J4⟩=> ?_;subst hr;obtain⟨m,hn,_⟩:=J4.loc;have B:Un (frs X.stack) fp H2 H3 s2.heap s4.heap:=J4.base;have I5:Inv X pins σ H3 s4:=I2.call' J4.os B J4.hok J4.bare fun b hb=>by
    obtain⟨a1,a2,a3,a4,a5,a6⟩:=f2 b hb;exact⟨a4,a2,a5,a6⟩
   have hp:=I2.fpOk (H':=H3) (b:=P2.objs.size) (Az hC1) J4.free;obtain⟨a1,a2,a3,a4,a5,a6⟩:=hp;exact fin s2.heap.objs.size P2.objs.size H3 s4 m I5 hn a1 a2 a3 (Ai I2.sz (Az hC1)) a5 a6 qd
  .refine n8_ (T.item (X.comp scope P2.objs.size N s2 H2 fp fun _ _=>False) rfl rfl rfl hc i [] s3 _ H3 _ J3 (stat fr3) t3 go) fun r s4 ⟨u,hr,h4⟩=> ?_;subst hr;refine n8_ h4 fun _ s5 ⟨x,H5,J5,r5,y5,t5,fr5⟩=> ?_;have J5':=J5.pinned (stat fr5) (T.obj _ _ t5);refine n8_ (hg _ _ _ _ _ s5 _ H5 x u _ J5' r5 (ho _ _ _ _ (step x H5 y5))) fun _ s6 ⟨σ6,H6,J6,q6,hl6,ho6⟩=> ?_;have again:∀{s7:Shared}{H7:Hp},Inv (X.comp scope P2.objs.size N s2 H2 fp fun _ _=>False) ([]++gS_ fp s5.heap) σ6 H7 s7->(∃m',m'<n/\Wq (i+1) m' H7)->
     ∃m,m<n/\∃i H',Inv (X.comp scope P2.objs.size N s2 H2 fp fun _ _=>False) [] (lZ_ own js σ) H' s7/\tn i s7.heap/\(∀b∈fp,H' b=none)/\Wq i m H':=fun{s7 H7} J7 z=>by
    obtain⟨m',hm,w7⟩:=z;refine⟨m',hm,i+1,H7,J7.unpinned.weak (by rw [hl6]) (fun k v z=> ?_),T.keep _ _ _ t5 fun b hb o e=>(J7.pin (b,o) (Al _ (Al _ (cQ_ hb e)))).1,fun b hb=> ?_,w7⟩
    .rw [ho6 k (hw_ z).1];exact z
    .obtain⟨o,e,d⟩:=T.obj _ _ t5 b hb;exact(J7.pin (b,o) (Al _ (Al _ (cQ_ hb e)))).2.1
   refine n8_ (ht _ _ _ _ _ s6 σ6 H6 _ J6 q6) fun ok s7 ⟨H7,J7,q7⟩=> ?_;cases ok with
   |false=>exact again J7 q7
   |true=>
    refine n8_ (he _ _ _ _ _ s7 σ6 H7 _ J7 q7) fun y s8 ⟨yv,H8,J8,r8,q8⟩=> ?_;exact n8_ (dp_ _ s8 σ6 H8 (.ref s2.heap.objs.size) [yv] (.ref s2.heap.objs.size) [y] _ J8 rfl (.cons r8 .nil) q8) fun _ s9 ⟨_,H9,J9,_,q9⟩=>again J9 q9
 exact codeAny_compStart_list (loop _ rfl) (T.self X.A 0 _ _ _ st3 (loop _ rfl))
theorem oz_ {X:Cx}{elt tg iter:Expr}{ifs:List Expr}{scope:Scope}{pos:Pos}{N:List Str}{own:Nat}{js:List Nat}{wi:TI}{g:TG}{ti:TT}{te:TE} (hc:X.calm=true)
  (hcell:∀y∈scope.names,y.2≠ .cell) (hkind:scope.kind= .function) (hnames:∀y∈scope.names,y.2= .local->scope.names.lookup y.1=some .local)
  (hfree:∀y∈scope.names,y.2= .free->X.env.kindOf y.1=some .cell\/X.env.kindOf y.1=some .free) (hlen:N.length=own+js.length)
  (hcap:∀(i j:Nat) (x:Str),js[i]? =some j->N[own+i]? =some x->X.N[j]? =some x/\(x,NameKind.free)∈scope.names/\(X.env.kindOf x=some .cell\/X.env.kindOf x=some .free)/\((relabel scope X.env).names.lookup x=some .cell\/(relabel scope X.env).names.lookup x=some .free))
  (hi:PI X tg iter wi) (hg:∀C s₀ H₀ ex,PG (X.comp scope C N s₀ H₀ ex fun _ _=>False) tg g) (ho:n0_ own g) (ht:∀C s₀ H₀ ex,pu_ (X.comp scope C N s₀ H₀ ex fun _ _=>False) ifs ti) (he:∀C s₀ H₀ ex,PE (X.comp scope C N s₀ H₀ ex fun _ _=>False) elt te)
  (hs:∀x,foldedSetIterable iter X.env x=pure x:=by intro _;rfl):PE X (.ListComp elt [⟨tg,iter,ifs,0⟩] scope pos) (ko_ own js wi g ti te):=by
 intro pins s σ H Q I h;rw [eval_ListComp];refine hs_ hc hcell hkind hnames hfree hlen hcap hi hg ho ht he I h (use:=none) (fun acc C H3 s4 m I5 hn c1 c2 c3 c4 c5 c6 q=> ?_) hs;refine⟨m,hn,fun h' sb=>⟨.ref acc,H3, ?_,rfl,q⟩⟩;exact I5.turned (t':=s4.toks) (it:=C) (fun b o hb e=>(sb.2 b hb).trans e) c1 c2 (.inr c4) c5 c6
theorem ov_ {X:Cx}{i:Nat}{y:Str}{py spos:Pos}{elt tg iter:Expr}{ifs:List Expr}{scope:Scope}{pos:Pos}{N:List Str}{own:Nat}{js:List Nat}{wi:TI}{g:TG}{ti:TT}{te:TE} (hN:X.N.Nodup) (hi':X.N[i]? =some y) (hy:Loc X.env.scope y) (hf:X.fn y=true\/X.env.scope.names.lookup y=some .local)
  (hc:X.calm=true)
  (hcell:∀y∈scope.names,y.2≠ .cell) (hkind:scope.kind= .function) (hnames:∀y∈scope.names,y.2= .local->scope.names.lookup y.1=some .local)
  (hfree:∀y∈scope.names,y.2= .free->X.env.kindOf y.1=some .cell\/X.env.kindOf y.1=some .free) (hlen:N.length=own+js.length)
  (hcap:∀(i j:Nat) (x:Str),js[i]? =some j->N[own+i]? =some x->X.N[j]? =some x/\(x,NameKind.free)∈scope.names/\(X.env.kindOf x=some .cell\/X.env.kindOf x=some .free)/\((relabel scope X.env).names.lookup x=some .cell\/(relabel scope X.env).names.lookup x=some .free))
  (hi:PI X tg iter wi) (hg:∀C s₀ H₀ ex,PG (X.comp scope C N s₀ H₀ ex fun _ _=>False) tg g) (ho:n0_ own g) (ht:∀C s₀ H₀ ex,pu_ (X.comp scope C N s₀ H₀ ex fun _ _=>False) ifs ti) (he:∀C s₀ H₀ ex,PE (X.comp scope C N s₀ H₀ ex fun _ _=>False) elt te)
  (hsw:swapsWith (.ListComp elt [⟨tg,iter,ifs,0⟩] scope pos) (some (.Name y py)) spos.line X.env=pure true:=by rfl)
  (hs:∀x,foldedSetIterable iter X.env x=pure x:=by intro _;rfl):PS X (.Assign [.Name y py] (.ListComp elt [⟨tg,iter,ifs,0⟩] scope pos) spos) (pR_ (ko_ own js wi g ti te) (bS_ i)):=by
 intro pins s σ H D I h;rw [exec_Assign_Name_used _ _ _ _ hsw];refine A0 (wpAny_standAt (A0 ?_));show wpAny _ X.A (do let _<-comprehension (.ListComp elt [⟨tg,iter,ifs,0⟩] scope pos) scope X.env _ (newList []) false (eval iter X.env) (some (assign (.Name y py) X.env))) _ _ s;refine A0 (BH (hs_ hc hcell hkind hnames hfree hlen hcap hi hg ho ht he I h (use:=some (assign (.Name y py) X.env)) (RQ:=fun _ s'=>SP X pins D .next s') (fun acc C H3 s4 m I5 hn c1 c2 c3 c4 c5 c6 q=> ?_) hs) (fun _ s' hq=>A3 (A3 hq)) fun _ _ e=>e);show wpAny _ X.A (assign (.Name y py) X.env (.ref acc)) _ _ _;obtain⟨o,es,ep,ho',hd,hr⟩:=hn;have I6:Inv X (pins++[(C,o)]) σ H3 s4:=I5.pins_of fun p hp=>by
  rcases Cs.mp hp with z|z
  .exact I5.pin p (Al _ z)
  .rw [BB.mp z];exact⟨ho',c1,c2,c3,fun v z=>by rw [hd] at z;cases z⟩
 refine wpAny_assign_Name (de_ I6 hN hi' hy (v:= .ref acc) rfl (fun s' I7=> ?_) hf);have hp:=I7.pin (C,o) (Al _ (Al _ (by simp)));refine⟨m,⟨o,es,ep,hp.1,hd,hr⟩,fun h' sb=>⟨_,H3, ?_,q⟩⟩;exact I7.unpinned.turned (t':=s'.toks) (it:=C) (fun b o hb e=>(sb.2 b hb).trans e) c1 c2 (.inr c4) c5 c6
end L2
namespace L2
open PySem PySem.Spec PyProof.Rows
def jt_ (XN:List Str) (sc scope:Scope) (own:Nat) (js:List Nat) (N:List Str):Bool:=
 (scope.names.all fun y=>decide (y.2≠ .cell)&&(decide (y.2≠ .local)||decide (scope.names.lookup y.1=some .local))&&(decide (y.2≠ .free)||decide (sc.names.lookup y.1=some .cell)||decide (sc.names.lookup y.1=some .free)))&&
  decide (scope.kind= .function)&&decide (N.length=own+js.length)&&
  (List.range js.length).all fun i=>match js[i]?,N[own+i]? with
   |some j,some x=>decide (XN[j]? =some x)&&decide (scope.names.lookup x=some .free)&&(decide (sc.names.lookup x=some .cell)||decide (sc.names.lookup x=some .free))
   |_,_=>false
theorem bt_ {env:Env}:∀{names:List (Str×NameKind)}{x:Str},names.lookup x=some .free->
  (names.map fun(n,k)=>if(k==NameKind.free&&env.scope.kind== .function&&env.kindOf n==some .cell) then(n,NameKind.cell) else(n,k)).lookup x=some .cell\/
  (names.map fun(n,k)=>if(k==NameKind.free&&env.scope.kind== .function&&env.kindOf n==some .cell) then(n,NameKind.cell) else(n,k)).lookup x=some .free
 |[],_,h=>by simp at h
 |(n,k)::r,x,h=>by
  have ih:= @bt_ env r x;rw [AW,CJ];rw [CJ] at h;by_cases hc:(k==NameKind.free&&env.scope.kind== .function&&env.kindOf n==some .cell)=true
  .rw [A9 hc];dsimp only;cases hx:x==n with
   |true=>exact .inl rfl
   |false=>
    rw [hx] at h;exact ih h
  .rw [A7 hc];dsimp only;cases hx:x==n with
   |true=>
    rw [hx] at h;exact .inr h
   |false=>
    rw [hx] at h;exact ih h
structure CompOk (XN:List Str) (sc scope:Scope) (own:Nat) (js:List Nat) (N:List Str):Prop where
 cell:∀y∈scope.names,y.2≠ .cell
 names:∀y∈scope.names,y.2= .local->scope.names.lookup y.1=some .local
 free:∀y∈scope.names,y.2= .free->sc.names.lookup y.1=some .cell\/sc.names.lookup y.1=some .free
 kind:scope.kind= .function
 len:N.length=own+js.length
 cap:∀(i j:Nat) (x:Str),js[i]? =some j->N[own+i]? =some x->XN[j]? =some x/\scope.names.lookup x=some .free/\(sc.names.lookup x=some .cell\/sc.names.lookup x=some .free)
theorem ht_ {XN:List Str}{sc scope:Scope}{own:Nat}{js:List Nat}{N:List Str} (h:jt_ XN sc scope own js N=true):CompOk XN sc scope own js N:=by
 unfold jt_ at h;rw [AE,AE,AE] at h;obtain⟨⟨⟨h1,h2⟩,h3⟩,h4⟩:=h;rw [Ao] at h1 h4;refine⟨fun y hy=> ?_,fun y hy e=> ?_,fun y hy e=> ?_,Ae h2,Ae h3,fun i j x a b=> ?_⟩
 .have:=h1 y hy;rw [AE,AE] at this;exact Ae this.1.1
 .have:=h1 y hy;rw [AE,AE,Bi] at this;rcases this.1.2 with z|z
  .exact absurd e (Ae z)
  .exact Ae z
 .have:=h1 y hy;rw [AE,AE,Bi,Bi,Bi] at this;rcases this.2 with(z|z)|z
  .exact absurd e (Ae z)
  .exact .inl (Ae z)
  .exact .inr (Ae z)
 .have hi:i<js.length:=(AC.mp a).1;have:=h4 i (BN.mpr hi);rw [a,b] at this;dsimp only at this;rw [AE,AE,Bi] at this;exact⟨Ae this.1.1,Ae this.1.2,this.2.imp Ae Ae⟩
section
variable {X:Cx}{XN:List Str}{sc scope:Scope}{elt tg iter:Expr}{ifs:List Expr}{pos:Pos}{N:List Str}{own:Nat}{js:List Nat}{wi:TI}{g:TG}{ti:TT}{te:TE}
theorem cb_ (hc:X.calm=true) (ok:jt_ XN sc scope own js N=true) (hsc:X.env.scope=sc) (hXN:X.N=XN) (hi:PI X tg iter wi) (hg:∀C s₀ H₀ ex,PG (X.comp scope C N s₀ H₀ ex fun _ _=>False) tg g) (ho:n0_ own g)
  (ht:∀C s₀ H₀ ex,pu_ (X.comp scope C N s₀ H₀ ex fun _ _=>False) ifs ti) (he:∀C s₀ H₀ ex,PE (X.comp scope C N s₀ H₀ ex fun _ _=>False) elt te)
  (hs:∀x,foldedSetIterable iter X.env x=pure x:=by intro _;rfl):PE X (.ListComp elt [⟨tg,iter,ifs,0⟩] scope pos) (ko_ own js wi g ti te):=by
 obtain⟨h1,h2,h3,h4,h5,h6⟩:=ht_ ok;subst hsc hXN;refine oz_ hc h1 h4 h2 h3 h5 (fun i j x a b=> ?_) hi hg ho ht he hs;obtain⟨z1,z2,z3⟩:=h6 i j x a b;exact⟨z1,Bj z2,z3,bt_ z2⟩
theorem cP_ {i:Nat}{y:Str}{py spos:Pos} (hN:X.N.Nodup) (hi':X.N[i]? =some y) (hy:Loc X.env.scope y) (hf:X.fn y=true\/X.env.scope.names.lookup y=some .local) (hc:X.calm=true) (ok:jt_ XN sc scope own js N=true) (hsc:X.env.scope=sc) (hXN:X.N=XN) (hi:PI X tg iter wi)
  (hg:∀C s₀ H₀ ex,PG (X.comp scope C N s₀ H₀ ex fun _ _=>False) tg g) (ho:n0_ own g)
  (ht:∀C s₀ H₀ ex,pu_ (X.comp scope C N s₀ H₀ ex fun _ _=>False) ifs ti) (he:∀C s₀ H₀ ex,PE (X.comp scope C N s₀ H₀ ex fun _ _=>False) elt te)
  (hsw:swapsWith (.ListComp elt [⟨tg,iter,ifs,0⟩] scope pos) (some (.Name y py)) spos.line X.env=pure true:=by rfl)
  (hs:∀x,foldedSetIterable iter X.env x=pure x:=by intro _;rfl):PS X (.Assign [.Name y py] (.ListComp elt [⟨tg,iter,ifs,0⟩] scope pos) spos) (pR_ (ko_ own js wi g ti te) (bS_ i)):=by
 obtain⟨h1,h2,h3,h4,h5,h6⟩:=ht_ ok;subst hsc hXN;refine ov_ hN hi' hy hf hc h1 h4 h2 h3 h5 (fun i j x a b=> ?_) hi hg ho ht he hsw hs;obtain⟨z1,z2,z3⟩:=h6 i j x a b;exact⟨z1,Bj z2,z3,bt_ z2⟩
end
theorem cR_ {lo:Int}{n:Nat}{own:Nat}{js:List Nat}{g:TG}{ti:TT}{te:TE}{σ:St}{H1:Hp}{acc:Addr}{Q:VK} (Pv:Nat->Hp->Prop) (h0:Pv 0 (upd H1 acc (.lst [])))
  (hs:∀i H2,i<n->Pv i H2->g (.int (lo+i)) (lZ_ own js σ) H2 fun σ4 H4=>ti σ4 H4 fun b H5=>if b=true then te σ4 H5 fun y H6=>ev_ (.ref acc) [y] H6 fun _ H7=>Pv (i+1) H7 else Pv (i+1) H5) (hd:∀H2,Pv n H2->Q (.ref acc) H2)
  (mono:∀σ H (R R':St->Hp->Prop) x,(∀σ' H',R σ' H'->R' σ' H')->g x σ H R->g x σ H R') (monoT:∀σ H (R R':Bool->Hp->Prop),(∀b H',R b H'->R' b H')->ti σ H R->ti σ H R') (monoE:∀σ H (R R':VK),(∀v H',R v H'->R' v H')->te σ H R->te σ H R'):
  ng_ (Itr lo n) own js g ti te σ H1 acc Q:=by
 refine⟨fun i m H2=>m=n-i/\i<=n/\Pv i H2,⟨n,by simp,AT _,h0⟩, ?_⟩;rintro i m H2 ⟨rfl,hi,p⟩;by_cases hlt:i<n
 .refine .inr ⟨hlt,fun x H3 y=> ?_⟩;obtain⟨e1,e2⟩:=y;subst e1 e2;refine mono _ _ _ _ _ (fun σ4 H4 q=>monoT _ _ _ _ (fun b H5 q=> ?_) q) (hs i _ hlt p);cases b with
  |true=>
   refine monoE _ _ _ _ (fun v H6 q=> ?_) q;obtain⟨l,xs,y,a1,a2,a3,a4,a5⟩:=q;exact⟨l,xs,y,a1,a2,a3,a4,n-(i+1),by lia,rfl,hlt,a5⟩
  |false=>exact⟨n-(i+1),by lia,rfl,hlt,q⟩
 .have e:i=n:=by lia
  subst e;exact .inl ⟨A5 _,hd H2 p⟩
theorem bH_ {K:W.Frag}{a:Addr}{xs:List V}{own:Nat}{js:List Nat}{g:TG}{ti:TT}{te:TE}{σ:St}{H1:Hp}{acc:Addr}{Q:VK} (Pv:Nat->Hp->Prop) (h0:Pv 0 (upd H1 acc (.lst []))) (hl:∀i H2,i<=xs.length->Pv i H2->SqL K H2 a xs)
  (hs:∀i x H2,xs[i]? =some x->Pv i H2->g x (lZ_ own js σ) H2 fun σ4 H4=>ti σ4 H4 fun b H5=>if b=true then te σ4 H5 fun y H6=>ev_ (.ref acc) [y] H6 fun _ H7=>Pv (i+1) H7 else Pv (i+1) H5) (hd:∀H2,Pv xs.length H2->Q (.ref acc) H2)
  (mono:∀σ H (R R':St->Hp->Prop) x,(∀σ' H',R σ' H'->R' σ' H')->g x σ H R->g x σ H R') (monoT:∀σ H (R R':Bool->Hp->Prop),(∀b H',R b H'->R' b H')->ti σ H R->ti σ H R') (monoE:∀σ H (R R':VK),(∀v H',R v H'->R' v H')->te σ H R->te σ H R'):
  ng_ (Itl K a) own js g ti te σ H1 acc Q:=by
 refine⟨fun i m H2=>m=xs.length-i/\i<=xs.length/\Pv i H2,⟨xs.length,by simp,AT _,h0⟩, ?_⟩;rintro i m H2 ⟨rfl,hi,p⟩;have q:=hl i H2 hi p;by_cases hlt:i<xs.length
 .refine .inr ⟨⟨xs,xs[i],q,by simp [hlt]⟩,fun x H3 y=> ?_⟩;obtain⟨e1,y⟩:=y;subst e1;refine mono _ _ _ _ _ (fun σ4 H4 q=>monoT _ _ _ _ (fun b H5 q=> ?_) q) (hs i x _ (y xs q) p);cases b with
  |true=>
   refine monoE _ _ _ _ (fun v H6 q=> ?_) q;obtain⟨l,xs,y,a1,a2,a3,a4,a5⟩:=q;exact⟨l,xs,y,a1,a2,a3,a4,_,by lia,rfl,hlt,a5⟩
  |false=>exact⟨_,by lia,rfl,hlt,q⟩
 .have e:i=xs.length:=by lia
  subst e;exact .inl ⟨⟨xs,q,A5 _⟩,hd H2 p⟩
theorem a2_ {i:Nat}:∀(σ:St) (H:Hp) (R R':St->Hp->Prop) (x:V),(∀σ' H',R σ' H'->R' σ' H')->bS_ i x σ H R->bS_ i x σ H R':=fun _ _ _ _ _ k h=>k _ _ h
theorem sa_ {A B:Hp->Prop}{σ:St}{H:Hp} (h:A H):pK_ σ H fun b H5=>if b=true then A H5 else B H5:=by
 show if true=true then A H else B H
 rw [A9 rfl];exact h
theorem nh_ {A B:St->Hp->Prop}{i:Nat}{x:V}{σ:St}{H:Hp} (h:A (σ.set i (some x)) H):bS_ i x σ H fun σ4 H4=>pK_ σ4 H4 fun b H5=>if b=true then A σ4 H5 else B σ4 H5:=by
 show if true=true then A (σ.set i (some x)) H else B (σ.set i (some x)) H
 rw [A9 rfl];exact h
theorem lz_ {n i:Nat} (h:i<n):ixN n (i:Int)=some i:=by
 unfold ixN;rw [A9 (by lia),A9 (by lia),AU]
theorem bP_:∀(σ:St) (H:Hp) (R R':Bool->Hp->Prop),(∀b H',R b H'->R' b H')->pK_ σ H R->pK_ σ H R':=fun _ _ _ _ k h=>k _ _ h
end L2
namespace L2
open PySem PySem.Spec PyProof.Rows
section
variable {X:Cx}{K:W.Frag}
theorem lx_ (h:X.K=K):IxR X (sg_ K):=h▸cp_
end
end L2
namespace L2
open PySem PySem.Spec PyProof.Rows
inductive EqR (K:W.Frag) (H:Hp):Nat->V->V->Bool->Prop where
 |int (d:Nat) (i j:Int):EqR K H d (.int i) (.int j) (decide (i=j))
 |lists {d:Nat}{a b:Addr}{xs ys:List V} (es:Nat->Bool) (h1:SqL K H a xs) (h2:SqL K H b ys) (hl:xs.length=ys.length) (he:∀(j:Nat) x y,xs[j]? =some x->ys[j]? =some y->EqR K H d x y (es j)):EqR K H (d+1) (.ref a) (.ref b) ((List.range xs.length).all es)
 |lens {d:Nat}{a b:Addr}{xs ys:List V} (h1:SqL K H a xs) (h2:SqL K H b ys) (hl:xs.length≠ys.length):EqR K H (d+1) (.ref a) (.ref b) false
 |tuples {d:Nat}{a b:Addr}{xs ys:List V} (es:Nat->Bool) (h1:SqT K H a xs) (h2:SqT K H b ys) (he:∀(j:Nat) x y,xs[j]? =some x->ys[j]? =some y->EqR K H d x y (es j)):EqR K H (d+1) (.ref a) (.ref b) ((List.range (min xs.length ys.length)).all es&&xs.length==ys.length)
section
variable {X:Cx}{pins:List (Addr×Obj)}{σ:St}{H:Hp}{s:Shared}
theorem EqR.same (I:Inv X pins σ H s) {d:Nat}{x y:V}{e:Bool} (h:EqR X.K H d x y e):x=y->e=true:=by
 induction h with
 |int d i j=>intro q;cases q;simp
 |lists es h1 h2 hl he ih=>
  intro q;cases q;have z:=I.list_inj h1 h2;subst z;rw [Ao];intro j hj;rw [BN] at hj;have hx:=A1 hj;exact ih j _ _ hx hx rfl
 |lens h1 h2 hl=>
  intro q;cases q;exact absurd (BW List.length (I.list_inj h1 h2)) hl
 | @tuples d a b xs ys es h1 h2 he ih=>
  intro q;cases q;have z:=I.tuple_inj h1 h2;subst z;rw [AE];refine⟨?_,by simp⟩;rw [Ao];intro j hj;rw [BN,Nat.min_self] at hj;have hx:=A1 hj;exact ih j _ _ hx hx rfl
theorem bf_ (A:Around):A.in1.units=A.units+1:=rfl
theorem EqR.at_ (I:Inv X pins σ H s) {d:Nat}{x y:V}{e:Bool} (h:EqR X.K H d x y e):∀{A:Around}{u v:Value},A.units+d<cLine->be_ x u->be_ y v->SeqAt.RcAt A s u v e/\SeqAt.RcNeAt A s u v (!e)/\SeqAt.EqAt A s u v e:=by
 induction h with
 |int d i j=>
  intro A u v hu ru rv;obtain⟨t,rfl⟩:=ru;obtain⟨t',rfl⟩:=rv;have e:decide (i=j)=(i==j):=by rw [Bool.beq_eq_decide_eq]
  rw [e];exact⟨SeqAt.RcAt.int_int i t j t',SeqAt.RcNeAt.int_int i t j t',SeqAt.EqAt.int_int i t j t'⟩
 | @lists d a b xs ys es h1 h2 hl he ih=>
  intro A u v hu ru rv;obtain rfl:u=Value.ref a:=ru;obtain rfl:v=Value.ref b:=rv;obtain⟨is,r1,p1,z1⟩:=I.list h1;obtain⟨js,r2,p2,z2⟩:=I.list h2;have l1:=r1.length;have l2:=r2.length;have ln:xs.length=is.toArray.size:=by simpa using l1
  have sz:is.toArray.size=js.toArray.size:=by simp only [A8];lia
  have it:∀j (q1:j<is.toArray.size) (q2:j<js.toArray.size),SeqAt.EqAt A.in1 s is.toArray[j] js.toArray[j] (es j):=fun j q1 q2=>by
   simp only [A8] at q1 q2;have hx:xs[j]? =some xs[j]:=A1 (by lia);have hy:ys[j]? =some ys[j]:=A1 (by lia);obtain⟨u1,e1,ru1⟩:=r1.get hx;obtain⟨u2,e2,ru2⟩:=r2.get hy;have g1:is.toArray[j]=u1:=by
    rw [A1 q1] at e1;simpa using Option.some.inj e1
   have g2:js.toArray[j]=u2:=by
    rw [A1 q2] at e2;simpa using Option.some.inj e2
   rw [g1,g2];exact(ih j _ _ hx hy (by rw [bf_];lia) ru1 ru2).2.2
  rw [ln];have R:=SeqAt.RcAt.lists (A:=A) p1.isList p2.isList sz (by lia) it;refine⟨R,SeqAt.RcNeAt.lists p1.isList p2.isList sz (by lia) it, ?_⟩;by_cases q:a=b
  .subst q;have:=(EqR.lists es h1 h2 hl he).same I rfl;rw [ln] at this;rw [this];exact SeqAt.EqAt.same _
  .exact SeqAt.EqAt.of_refs q R
 | @lens d a b xs ys h1 h2 hl=>
  intro A u v hu ru rv;obtain rfl:u=Value.ref a:=ru;obtain rfl:v=Value.ref b:=rv;obtain⟨is,r1,p1,z1⟩:=I.list h1;obtain⟨js,r2,p2,z2⟩:=I.list h2;have l1:=r1.length;have l2:=r2.length;have sz:(is.toArray.size !=js.toArray.size)=true:=by
   simp only [A8,bne_iff_ne,ne_eq];lia
  have R:=SeqAt.RcAt.lists_lengths (A:=A) p1.isList p2.isList sz (by lia);refine⟨R,SeqAt.RcNeAt.lists_lengths p1.isList p2.isList sz (by lia), ?_⟩;by_cases q:a=b
  .subst q;exact absurd (BW List.length (I.list_inj h1 h2)) hl
  .exact SeqAt.EqAt.of_refs q R
 | @tuples d a b xs ys es h1 h2 he ih=>
  intro A u v hu ru rv;obtain rfl:u=Value.ref a:=ru;obtain rfl:v=Value.ref b:=rv;obtain⟨is,r1,p1,z1⟩:=I.tuple h1;obtain⟨js,r2,p2,z2⟩:=I.tuple h2;have l1:=r1.length;have l2:=r2.length;have ln:xs.length=is.toArray.size:=by simpa using l1
  have ln2:ys.length=js.toArray.size:=by simpa using l2
  have it:∀j (q1:j<is.toArray.size) (q2:j<js.toArray.size),SeqAt.EqAt A.in1 s is.toArray[j] js.toArray[j] (es j):=fun j q1 q2=>by
   simp only [A8] at q1 q2;have hx:xs[j]? =some xs[j]:=A1 (by lia);have hy:ys[j]? =some ys[j]:=A1 (by lia);obtain⟨u1,e1,ru1⟩:=r1.get hx;obtain⟨u2,e2,ru2⟩:=r2.get hy;have g1:is.toArray[j]=u1:=by
    rw [A1 q1] at e1;simpa using Option.some.inj e1
   have g2:js.toArray[j]=u2:=by
    rw [A1 q2] at e2;simpa using Option.some.inj e2
   rw [g1,g2];exact(ih j _ _ hx hy (by rw [bf_];lia) ru1 ru2).2.2
  rw [ln,ln2];have R:=SeqAt.RcAt.tuples (A:=A) (show s.heap.IsTuple a is.toArray from p1) (show s.heap.IsTuple b js.toArray from p2) (by lia) it;refine⟨R,SeqAt.RcNeAt.tuples (show s.heap.IsTuple a is.toArray from p1) (show s.heap.IsTuple b js.toArray from p2) (by lia) it, ?_⟩;by_cases q:a=b
  .subst q;have:=(EqR.tuples es h1 h2 he).same I rfl;rw [ln,ln2] at this;rw [this];exact SeqAt.EqAt.same _
  .exact SeqAt.EqAt.of_refs q R
def sh_ (K:W.Frag) (neg:Bool):R2:=fun x y H Q=>∃d e,EqR K H d x y e/\d<=8/\Q (.bl (if neg then !e else e)) H
theorem fu_ {k:Nat} (hr:Room k X.A):OpR X (compareOp .Eq) (sh_ X.K false):=by
 intro pins s σ H x y v u Q I rx ry h;obtain⟨d,e,r,hd,q⟩:=h;have hu:=hr.un;exact(r.at_ I (A:=X.A) (by lia) rx ry).1 X.prog X.w X.xe _ ⟨.bl e,H,I,rfl,q⟩
theorem ql_ {k:Nat} (hr:Room k X.A):OpR X (compareOp .NotEq) (sh_ X.K true):=by
 intro pins s σ H x y v u Q I rx ry h;obtain⟨d,e,r,hd,q⟩:=h;have hu:=hr.un;exact(r.at_ I (A:=X.A) (by lia) rx ry).2.1 X.prog X.w X.xe _ ⟨.bl (!e),H,I,rfl,q⟩
theorem na_ (hc:X.calm=true):ca_ X (.builtin "sum") (fun xs H Q=>∃(p:Addr) (ns:List Int),xs=[.ref p]/\SqL X.K H p (ns.map V.int)/\Q (.int ns.sum) H):=by
 intro pins s σ H xs us Q I r h;obtain⟨p,ns,rfl,hq,q⟩:=h;obtain⟨u,rfl,rx⟩:=dA_ r;cases rx;obtain⟨its,r',pl,hz⟩:=I.list hq;have hi:IntsAre its ns:=fC_ r';obtain⟨ys,e⟩:=hi.allInts.items;have hl:=pl.isList;rw [e] at hl;refine sum_intListG (I.ok.hd hc) hl fun h' tk t' hk=>⟨.int ns.sum,H,I.kept hk,⟨t', ?_⟩,q⟩;have n1:=hi.numsOf;rw [show its=its.toArray.toList from rfl,e,nums_intItems] at n1;rw [preSum_eq,Ca (by simp),n1]
def CDB (_ j:Int):Prop:=j≠0/\j.natAbs<2^512
theorem dl_:OpR X (binaryOp .FloorDiv) (rI CDB fun i j=> .int (i.fdiv j)):=opI fun i j _ _ _ _ _ hc q=>floordiv_int hc.1 q (.inl (PyProof.noPylong_of_log2 (by
 have h0:j.natAbs≠0:=by have:=hc.1;lia
 have:=(Nat.log2_lt h0).mpr hc.2;lia)))
end
end L2
namespace L2
open PySem PySem.Spec PyProof.Rows
section
variable {prog:Program}{w:World}{A:Around}{E:Value->Shared->Prop}{s:Shared}
end
section
variable {X:Cx}{e:Expr}{te:TE}{p1 p2 p3 pos:Pos}
end
end L2
namespace L2
open PySem PySem.Spec PyProof.Rows
def Ite (K:W.Frag) (a:Addr):It:=
 ⟨fun i H=>∃xs x,SqL K H a xs/\xs[i]? =some x,fun i H v H'=>∃x p,(∀xs,SqL K H a xs->xs[i]? =some x)/\v= .ref p/\H p=none/\H'=upd H p (.tup [.int i,x]),fun i H=>∃xs,SqL K H a xs/\xs.length<=i⟩
theorem ki_ {P:Program}{w:World}{K:W.Frag}{elts:List Expr}{k:Nat}{pos:Pos} (a e it:Addr) (hne:e≠it):
  Turn P w K (.Tuple elts k pos) (Ite K a) [e,it] e (fun i h=>(∃old,IsEnum h e it (i:Nat) old)/\h.IsListIter it a i) where
 mem:=by simp
 obj:=fun i h st b hb=>by
  obtain⟨⟨old,h1⟩,o,h2,h3,h4⟩:=st;rcases AN.mp hb with z|z
  .subst z;exact⟨_,h1,fun v y=>by cases y⟩
  .rw [BB.mp z];exact⟨o,h2,fun v y=>by rw [h4] at y;cases y⟩
 keep:=fun i h h' st kk=>⟨st.1.imp fun old z=>kk e (by simp) _ z,st.2.at fun o z=>kk it (by simp) o z⟩
 item:=by
  intro X hP hw hK hc i pins s σ H E I hf st hg;subst hP hw hK;obtain⟨xs,x,hq,hx⟩:=hg;obtain⟨its,rv,p,hz⟩:=I.list hq;obtain⟨u,hu,ru⟩:=rv.get hx;obtain⟨⟨old,he⟩,hit⟩:=st;have nf:H s.heap.objs.size=none:=I.hok.fresh (A5 _);have ltE:e<s.heap.objs.size:=AF he;refine wpAny_pyNext_enum_item he hit p.isList (x:=u) (by simpa using hu) hne fun h' ho hit' hT hsz hk=>⟨.ref s.heap.objs.size,rfl, ?_⟩;refine wpAny_letOwnedTupleGo_enum ho fun h2 he2 sb=> ?_;have k2:∀b o,b≠e->b≠it->s.heap.get? b=some o->h2.get? b=some o:=fun b o n1 n2 z=>(sb.2 b n1).trans (hk b o n1 n2 z);have hT2:h2.get? s.heap.objs.size=some {cls:= .type "tuple",data:= .seq #[.int i s.toks,u]}:=(sb.2 _ (C0 ltE)).trans hT;have hch:∀b,b∉[e,it]->b≠e/\b≠it:=fun b z=>⟨fun y=>z (by simp [y]),fun y=>z (by simp [y])⟩;refine⟨.ref s.heap.objs.size,upd H s.heap.objs.size (.tup [.int i,x]), ?_,rfl,⟨x,_,fun ys hy=>by rw [I.list_inj hy hq];exact hx,rfl,nf,rfl⟩,⟨⟨u,by simpa using he2⟩,hit'.at fun o z=>(sb.2 it hne.symm).trans z⟩,fun b hb=> ?_⟩
  .refine I.step (s:=s) (h':=h2) (g':=s.gens) (d':=s.drawn) (t':=s.toks+1) (ch:=[e,it]) (fun b hb=> ?_) (fun b o _ _ c z _=>k2 b o (hch b c).1 (hch b c).2 z) (fun b o _ _ c z _=>⟨o.slots,k2 b o (hch b c).1 (hch b c).2 z⟩)
    (fun b o c z n=> ?_) (fun b o c z=>⟨o,k2 b o (hch b c).1 (hch b c).2 z⟩) (fun b ys z=> ?_) (fun b o v z=> ?_) (fun b ps z=>⟨#[], ?_⟩) (fun m hm=> ?_) (fun b v z=> ?_) I.bare
   .obtain⟨a1,a2,a3,a4,a5,a6⟩:=hf b hb;exact⟨a4,a2,a5,a6⟩
   .rw [aj_ (AI (AF z))];exact n
   .rw [aj_ (ao_ z nf)];exact z
   .rw [aj_ (ao_ z nf)];exact z
   .rw [aj_ (ao_ z nf),z];simp
   .obtain⟨o,es,ep,ho',r⟩:=hm;exact⟨o,es,ep,k2 _ o (fun y=>(hf e (by simp)).2.1 y.symm) (fun y=>(hf it (by simp)).2.1 y.symm) ho',r⟩
   .by_cases hb:b=s.heap.objs.size
    .subst hb;rw [ae_] at z;cases z;exact⟨by show 2<=sizeLine;decide,[.int i s.toks,u], .cons ⟨_,rfl⟩ (.cons ru .nil),⟨_,hT2,rfl,_,rfl⟩⟩
    .rw [aj_ hb] at z;refine(I.hok b v z).stay (fun c o hc y=>k2 c o ?_ ?_ y) (fun c y=> ?_) fun c ys y=> ?_
     .rcases hc with q|q
      .rw [q];exact fun y=>by rw [y,(hf e (by simp)).1] at z;cases z
      .exact fun y=>by rw [y,(hf e (by simp)).1] at q;cases q
     .rcases hc with q|q
      .rw [q];exact fun y=>by rw [y,(hf it (by simp)).1] at z;cases z
      .exact fun y=>by rw [y,(hf it (by simp)).1] at q;cases q
     .rw [aj_ (ao_ y nf)];exact y
     .rw [aj_ (ao_ y nf)];exact y
  .obtain⟨o,z,_⟩:=(show∃o,s.heap.get? b=some o/\True from by
    rcases AN.mp hb with q|q
    .rw [q];exact⟨_,he,trivial⟩
    .rw [BB.mp q];obtain⟨o,y,_⟩:=hit;exact⟨o,y,trivial⟩)
   rw [aj_ (AI (AF z))];exact(hf b hb).1
 done:=by
  intro X hP hw hK hc i pins s σ H E I hf st hg;subst hP hw hK;obtain⟨xs,hq,hx⟩:=hg;obtain⟨its,rv,p,hz⟩:=I.list hq;obtain⟨⟨old,he⟩,hit⟩:=st;have hl:=rv.length;obtain⟨f0,f1,f2,f3,f4,f5⟩:=hf it (by simp);exact wpAny_pyNext_enum_end (I.ok.hd hc) he hit p.isList (by simp;lia) fun h' eb=>⟨rfl,I.turned (t':=s.toks) (fun b o hb z=>eb b o hb z) f0 f1 f3 f4 f5⟩
 self:=fun _ _ _ _ _ st h=>let ⟨⟨_,z⟩,_⟩:=st;wpAny_pyIter_enum z h
section
variable {X:Cx}{elts:List Expr}{k:Nat}{tpos p pos:Pos}{e:Expr}{te:TE}
def rZ_ (K:W.Frag) (tl:TE):TI:=fun σ H R=>tl σ H fun x H1=>∃a,x= .ref a/\(∃xs,SqL K H1 a xs)/\R (Ite K a) H1
theorem f1_ (hg:Gl X "enumerate") (hm:X.mg "enumerate"=none) (hl:PE X e te) (he:starEach [e] X.env=[(false,eval e X.env)]:=by rfl):PI X (.Tuple elts k tpos) (.Call (.Name "enumerate" p) [e] [] pos) (rZ_ X.K te):=by
 intro pins s σ H R I h;refine BV (cI_ I hg hm boot_enumerate ?_);refine BG (thn ((aa_ hl ad_ he) _ pins s σ H (fun vs H1=>match vs with|[x]=>(∃a,x= .ref a/\(∃xs,SqL X.K H1 a xs)/\R (Ite X.K a) H1)|_=>False) I h) fun us s1 ⟨vs,H1,I1,r1,q1⟩=> ?_) he (by rfl)
 match vs,q1,r1 with
 |[x],q1,r1=>
 obtain⟨a,rfl,⟨xs,hq⟩,q⟩:=q1;obtain⟨u,rfl,ru⟩:=dA_ r1;obtain rfl:u=Value.ref a:=ru;obtain⟨its,rv,pl,hz⟩:=I1.list hq;refine call_enumerate_list pl.isList fun h' hen hit hsz hk=> ?_;refine wpAny_pyIter_enum hen ?_;refine⟨_,[_,_],_,_,H1,rfl,I1.kept (t':=s1.toks) hk,ki_ a _ _ (C0 (Bc _)),⟨⟨_,by simpa using hen⟩,hit⟩,fun b hb=> ?_,q⟩;have fr:∀b,s1.heap.objs.size<=b->iy_ X pins H1 b:=fun b z=>I1.fpOk z (I1.hok.fresh z);rcases AN.mp hb with z|z
 .rw [z];exact fr _ (Cn _)
 .rw [BB.mp z];exact fr _ (A5 _)
end
theorem eg_ {K:W.Frag}{a:Addr}{xs:List V}{g:TG}{tb:TS}{D:Ends}{σ:St}{H:Hp} (Pv:Nat->St->Hp->Prop) (h0:Pv 0 σ H) (hl:∀i σ H,i<=xs.length->Pv i σ H->SqL K H a xs)
  (hs:∀i x σ H p,xs[i]? =some x->Pv i σ H->H p=none->g (.ref p) σ (upd H p (.tup [.int i,x])) fun σ2 H2=>tb {D with nx:=Pv (i+1),ct:=Pv (i+1),bk:=D.nx} σ2 H2) (hd:∀σ H,Pv xs.length σ H->D.nx σ H):
  ∃Wq:Nat->Nat->St->Hp->Prop,(∃m,Wq 0 m σ H)/\∀i m σ H,Wq i m σ H->
   ((Ite K a).stop i H/\D.nx σ H)\/((Ite K a).go i H/\∃N:St->Hp->Prop,(∀σ' H',N σ' H'->∃m',m'<m/\Wq (i+1) m' σ' H')/\∀x H',(Ite K a).yld i H x H'->g x σ H' fun σ2 H2=>tb {D with nx:=N,ct:=N,bk:=D.nx} σ2 H2):=by
 refine⟨fun i m σ H=>m=xs.length-i/\i<=xs.length/\Pv i σ H,⟨xs.length,by simp,AT _,h0⟩, ?_⟩;rintro i m σ H ⟨rfl,hi,p⟩;have q:=hl i σ H hi p;by_cases hlt:i<xs.length
 .refine .inr ⟨⟨xs,xs[i],q,by simp [hlt]⟩,Pv (i+1),fun σ' H' p'=>⟨xs.length-(i+1),by lia,rfl,hlt,p'⟩,fun x H' y=> ?_⟩;obtain⟨z,pp,e1,e2,e3,e4⟩:=y;subst e2 e4;exact hs i z σ H pp (e1 xs q) p e3
 .have e:i=xs.length:=by lia
  subst e;exact .inl ⟨⟨xs,q,A5 _⟩,hd σ H p⟩
def rI_ (K:W.Frag):V->V->Hp->VK->Prop:=fun o i H Q=>∃(p:Addr) (xs:List V) (j:Nat) (k:Int) (v:V),o= .ref p/\i= .int k/\k=j/\SqL K H p xs/\xs[j]? =some v/\Q v H
theorem jn_ {X:Cx}:sp_ X (rI_ X.K):=by
 intro pins s σ H o i ov iv Q I r1 r2 h;obtain⟨p,xs,j,k,v,rfl,rfl,e,hq,hx,q⟩:=h;cases r1;obtain⟨t,rfl⟩:=r2;obtain⟨its,r,pl,hz⟩:=I.list hq;obtain⟨w,ew,rw'⟩:=r.get hx;have hl:=r.length;have hn:=fy_;have hj:j<xs.length:=(AC.mp hx).1;exact wpAny_getItem_list pl.isList (by lia) (by lia) (by rw [e,AU];simpa using ew) ⟨v,H,I,rw',q⟩
end L2
namespace L2
open PySem PySem.Spec PyProof.Rows
section
variable {X:Cx}{e:Expr}{te:TE}{st:Expr}{ts:TO}{pos p2:Pos}
end
section
variable {X:Cx}{st:Stmt}{t:TS}
def sy_ (t:TS):TS:=fun D σ H=>∃I:St->Hp->Prop,t {D with nx:=I} σ H/\∀σ' H',I σ' H'->D.nx σ' H'
theorem p9_ (h:PS X st t):PS X st (sy_ t):=fun pins s σ H D Iv ⟨J,h1,h2⟩=>
 thn (h pins s σ H _ Iv h1) fun f s' hf=>by
  cases f with
  |next=>obtain⟨σ',H',a,b⟩:=hf;exact⟨σ',H',a,h2 _ _ b⟩
  |brk=>exact hf
  |cont=>exact hf
  |ret u=>exact hf
end
end L2
namespace L2
open PySem PySem.Spec PyProof.Rows
def Itv (K:W.Frag) (a:Addr) (n:Nat):It:=
 ⟨fun i H=>∃xs x,SqL K H a xs/\i<n/\xs[n-1-i]? =some x,fun i H x H'=>H'=H/\∀xs,SqL K H a xs->xs[n-1-i]? =some x,fun i _=>i=n⟩
theorem mh_ {P:Program}{w:World}{K:W.Frag}{tg:Expr} (a it:Addr) (n:Nat):Turn P w K tg (Itv K a n) [it] it (fun i h=>h.IsRevIter it a ((n:Int)-1-(i:Int))) where
 mem:=by simp
 obj:=fun i h st b hb=>by
  have e:b=it:=by simpa using hb
  subst e;obtain⟨o,e,c,d⟩:=st;exact⟨o,e,fun v z=>by rw [d] at z;cases z⟩
 keep:=fun i h h' st k=>st.at fun o e=>k it (by simp) o e
 item:=by
  intro X hP hw hK hc i pins s σ H E I hf st hg;subst hP hw hK;obtain⟨xs,x,hq,hi,hx⟩:=hg;obtain⟨its,rv,p,hz⟩:=I.list hq;obtain⟨u,hu,ru⟩:=rv.get hx;obtain⟨f0,f1,f2,f3,f4,f5⟩:=hf it (by simp);have e0:(n:Int)-1-(i:Int)=((n-1-i:Nat):Int):=by lia
  have st:s.heap.IsRevIter it a ((n:Int)-1-(i:Int)):=st;rw [e0] at st;refine wpAny_pyNext_rev_item st p.isList (x:=u) (by simpa using hu) fun h' st' sb=> ?_;have I1:Inv X pins σ H {s with heap:=h'}:=I.turned (t':=s.toks) (fun b o hb e=>(sb.2 b hb).trans e) f0 f1 f3 f4 f5;obtain⟨o,e,c,d⟩:=id st';refine⟨u,rfl,go_of (s:={s with heap:=h'}) e c d (by decide) ⟨x,H,I1,ru,⟨rfl,fun ys hy=>by rw [I.list_inj hy hq];exact hx⟩, ?_,fun b hb=>(hf b hb).1⟩⟩;show h'.IsRevIter it a ((n:Int)-1-((i+1:Nat):Int));rw [show(n:Int)-1-((i+1:Nat):Int)=((n-1-i:Nat):Int)-1 by lia];exact st'
 done:=by
  intro X hP hw hK hc i pins s σ H E I hf st hg;subst hP hw hK;obtain rfl:i=n:=hg;obtain⟨f0,f1,f2,f3,f4,f5⟩:=hf it (by simp);have st:s.heap.IsRevIter it a ((i:Int)-1-(i:Int)):=st;rw [show(i:Int)-1-(i:Int)= -1 by lia] at st;exact wpAny_pyNext_rev_end (I.ok.hd hc) st fun h' eb=>⟨rfl,I.turned (t':=s.toks) (fun b o hb e=>eb b o hb e) f0 f1 f3 f4 f5⟩
 self:=fun _ _ _ _ _ st h=>wpAny_pyIter_revIter st h
section
variable {X:Cx}{tg e:Expr}{p pos:Pos}{te:TE}
def sW_ (K:W.Frag) (tl:TE):TI:=fun σ H R=>tl σ H fun x H1=>∃a xs,x= .ref a/\SqL K H1 a xs/\R (Itv K a xs.length) H1
theorem qd_ (hg:Gl X "reversed") (hm:X.mg "reversed"=none) (hl:PE X e te) (he:starEach [e] X.env=[(false,eval e X.env)]:=by rfl):PI X tg (.Call (.Name "reversed" p) [e] [] pos) (sW_ X.K te):=by
 intro pins s σ H R I h;refine BV (cI_ I hg hm boot_reversed ?_);refine BG (thn ((aa_ hl ad_ he) _ pins s σ H (fun vs H1=>match vs with|[x]=>(∃a xs,x= .ref a/\SqL X.K H1 a xs/\R (Itv X.K a xs.length) H1)|_=>False) I h) fun us s1 ⟨vs,H1,I1,r1,q1⟩=> ?_) he (by rfl)
 match vs,q1,r1 with
 |[x],q1,r1=>
 obtain⟨a,xs,rfl,hq,q⟩:=q1;obtain⟨u,rfl,ru⟩:=dA_ r1;obtain rfl:u=Value.ref a:=ru;obtain⟨its,rv,pl,hz⟩:=I1.list hq;refine call_reversed_list pl.isList ?_;have hit:(s1.heap.push (revObj a ((its.toArray.size:Int)-1))).IsRevIter s1.heap.objs.size a ((its.toArray.size:Int)-1):=⟨_,AH _ rfl,rfl,rfl⟩;refine wpAny_pyIter_revIter hit ?_;refine⟨s1.heap.objs.size,[s1.heap.objs.size],_,_,H1,rfl,I1.kept (t':=s1.toks) fun b o e=>AB _ e,mh_ a _ xs.length, ?_,fun b hb=> ?_,q⟩
 .have el:(its.toArray.size:Int)=(xs.length:Int):=by rw [A8,rv.length]
  rw [el] at hit;show Heap.IsRevIter _ _ a ((xs.length:Int)-1-((0:Nat):Int));rw [show(xs.length:Int)-1-((0:Nat):Int)=(xs.length:Int)-1 by lia,el];exact hit
 .have e:b=s1.heap.objs.size:=by simpa using hb
  subst e;exact I1.fpOk (A5 _) (I1.hok.fresh (A5 _))
end
theorem o5_ {K:W.Frag}{a:Addr}{xs:List V}{n:Nat}{g:TG}{tb:TS}{D:Ends}{σ:St}{H:Hp} (hn:xs.length=n) (Pv:Nat->St->Hp->Prop) (h0:Pv 0 σ H) (hl:∀i σ H,i<=n->Pv i σ H->SqL K H a xs)
  (hs:∀i x σ H,xs.reverse[i]? =some x->Pv i σ H->g x σ H fun σ2 H2=>tb {D with nx:=Pv (i+1),ct:=Pv (i+1),bk:=D.nx} σ2 H2) (hd:∀σ H,Pv n σ H->D.nx σ H):
  ∃Wq:Nat->Nat->St->Hp->Prop,(∃m,Wq 0 m σ H)/\∀i m σ H,Wq i m σ H->
   ((Itv K a n).stop i H/\D.nx σ H)\/((Itv K a n).go i H/\∃N:St->Hp->Prop,(∀σ' H',N σ' H'->∃m',m'<m/\Wq (i+1) m' σ' H')/\∀x H',(Itv K a n).yld i H x H'->g x σ H' fun σ2 H2=>tb {D with nx:=N,ct:=N,bk:=D.nx} σ2 H2):=by
 subst hn;refine⟨fun i m σ H=>m=xs.length-i/\i<=xs.length/\Pv i σ H,⟨xs.length,by simp,AT _,h0⟩, ?_⟩;rintro i m σ H ⟨rfl,hi,p⟩;have q:=hl i σ H hi p;by_cases hlt:i<xs.length
 .refine .inr ⟨⟨xs,xs[xs.length-1-i],q,hlt,by rw [A1 (by lia)]⟩,Pv (i+1),fun σ' H' p'=>⟨xs.length-(i+1),by lia,rfl,hlt,p'⟩,fun x H' y=> ?_⟩;obtain⟨e1,e2⟩:=y;subst e1;exact hs i x σ _ (by rw [List.getElem?_reverse hlt];exact e2 xs q) p
 .have e:i=xs.length:=by lia
  subst e;exact .inl ⟨rfl,hd σ H p⟩
theorem pC_:4096+4096<=134217728:=by decide
end L2
namespace L2
open PySem PySem.Spec PyProof.Rows
inductive D where
 |i (n:Int)|l (xs:List D)|t (xs:List D)
mutual
def Is (H:Hp):D->V->Prop
 | .i n,v=>v= .int n
 | .l xs,v=>∃a vs,v= .ref a/\H a=some (.lst vs)/\Iss H xs vs
 | .t xs,v=>∃a vs,v= .ref a/\H a=some (.tup vs)/\Iss H xs vs
def Iss (H:Hp):List D->List V->Prop
 |[],vs=>vs=[]
 |x::xs,vs=>∃u us,vs=u::us/\Is H x u/\Iss H xs us
end
theorem pA_ {H:Hp}{n:Int}:Is H (.i n) (.int n):=by unfold Is;rfl
theorem fg_ {H:Hp}{a:Addr}{xs:List D}{vs:List V} (h:H a=some (.lst vs)) (k:Iss H xs vs):Is H (.l xs) (.ref a):=by unfold Is;exact⟨a,vs,rfl,h,k⟩
theorem nD_ {H:Hp}{a:Addr}{xs:List D}{vs:List V} (h:H a=some (.tup vs)) (k:Iss H xs vs):Is H (.t xs) (.ref a):=by unfold Is;exact⟨a,vs,rfl,h,k⟩
theorem ee_ {H:Hp}{n:Int}{v:V} (h:Is H (.i n) v):v= .int n:=by unfold Is at h;exact h
theorem dd_ {H:Hp}{xs:List D}{v:V} (h:Is H (.l xs) v):∃a vs,v= .ref a/\H a=some (.lst vs)/\Iss H xs vs:=by unfold Is at h;exact h
theorem l9_ {H:Hp}{xs:List D}{v:V} (h:Is H (.t xs) v):∃a vs,v= .ref a/\H a=some (.tup vs)/\Iss H xs vs:=by unfold Is at h;exact h
theorem ax_ {H:Hp}:Iss H [] []:=by unfold Iss;rfl
theorem az_ {H:Hp}{x:D}{xs:List D}{u:V}{us:List V} (h:Is H x u) (k:Iss H xs us):Iss H (x::xs) (u::us):=by unfold Iss;exact⟨u,us,rfl,h,k⟩
theorem ba_ {H:Hp}{x:D}{xs:List D}{vs:List V} (h:Iss H (x::xs) vs):∃u us,vs=u::us/\Is H x u/\Iss H xs us:=by unfold Iss at h;exact h
theorem cm_ {H:Hp}{vs:List V} (h:Iss H [] vs):vs=[]:=by unfold Iss at h;exact h
mutual
theorem Is.mono {H H':Hp} (s:ak_ H H'):∀{d:D}{v:V},Is H d v->Is H' d v
 | .i _,_,h=>by rw [ee_ h];exact pA_
 | .l xs,_,h=>by
  obtain⟨a,vs,e,q,r⟩:=dd_ h;rw [e];exact fg_ (s _ _ q) (Iss.mono s r)
 | .t xs,_,h=>by
  obtain⟨a,vs,e,q,r⟩:=l9_ h;rw [e];exact nD_ (s _ _ q) (Iss.mono s r)
theorem Iss.mono {H H':Hp} (s:ak_ H H'):∀{xs:List D}{vs:List V},Iss H xs vs->Iss H' xs vs
 |[],_,h=>by rw [cm_ h];exact ax_
 |x::xs,_,h=>by
  obtain⟨u,us,e,q,r⟩:=ba_ h;rw [e];exact az_ (Is.mono s q) (Iss.mono s r)
end
theorem Iss.length {H:Hp}:∀{xs:List D}{vs:List V},Iss H xs vs->vs.length=xs.length
 |[],_,h=>by rw [cm_ h];rfl
 |x::xs,_,h=>by
  obtain⟨u,us,rfl,_,r⟩:=ba_ h;rw [Ag,Ag,r.length]
theorem Iss.get {H:Hp}:∀{xs:List D}{vs:List V}{j:Nat}{x:D},Iss H xs vs->xs[j]? =some x->∃v,vs[j]? =some v/\Is H x v
 |[],_,_,_,_,e=>by simp at e
 |x::xs,_,0,_,h,e=>by
  obtain⟨u,us,rfl,q,_⟩:=ba_ h;simp at e;subst e;exact⟨u,rfl,q⟩
 |x::xs,_,j+1,_,h,e=>by
  obtain⟨u,us,rfl,_,r⟩:=ba_ h;obtain⟨v,e',k⟩:=r.get (j:=j) (by simpa using e);exact⟨v,by simpa using e',k⟩
theorem Iss.of_get {H:Hp}{xs:List D}{vs:List V}{j:Nat}{v:V} (h:Iss H xs vs) (e:vs[j]? =some v):∃x,xs[j]? =some x/\Is H x v:=by
 have hj:j<vs.length:=(AC.mp e).1;have hj':j<xs.length:=by rw [<-h.length];exact hj
 obtain⟨u,e1,k⟩:=h.get (A1 hj');rw [e] at e1;cases e1;exact⟨_,A1 hj',k⟩
theorem Iss.append {H:Hp}:∀{xs ys:List D}{vs ws:List V},Iss H xs vs->Iss H ys ws->Iss H (xs++ys) (vs++ws)
 |[],_,_,_,h,k=>by rw [cm_ h];exact k
 |x::xs,_,_,_,h,k=>by
  obtain⟨u,us,rfl,q,r⟩:=ba_ h;exact az_ q (r.append k)
theorem Iss.take {H:Hp}:∀{xs:List D}{vs:List V} (n:Nat),Iss H xs vs->Iss H (xs.take n) (vs.take n)
 |[],_,n,h=>by rw [cm_ h];simp;exact ax_
 |x::xs,_,0,h=>by simp;exact ax_
 |x::xs,_,n+1,h=>by
  obtain⟨u,us,rfl,q,r⟩:=ba_ h;exact az_ q (r.take n)
theorem Iss.drop {H:Hp}:∀{xs:List D}{vs:List V} (n:Nat),Iss H xs vs->Iss H (xs.drop n) (vs.drop n)
 |[],_,n,h=>by rw [cm_ h];simp;exact ax_
 |x::xs,_,0,h=>h
 |x::xs,_,n+1,h=>by
  obtain⟨u,us,rfl,q,r⟩:=ba_ h;exact r.drop n
theorem Iss.rep {H:Hp}{x:D}{v:V} (h:Is H x v):∀n:Nat,Iss H (List.replicate n x) (List.replicate n v)
 |0=>ax_
 |n+1=>by rw [Aj,Aj];exact az_ h (Iss.rep h n)
mutual
def Kin:D->D->Prop
 | .i _, .i _=>True
 | .l xs, .l ys=>j9_ xs ys
 | .t xs, .t ys=>j9_ xs ys
 |_,_=>False
def j9_:List D->List D->Prop
 |x::xs,y::ys=>Kin x y/\j9_ xs ys
 |_,_=>True
end
mutual
def eqD:D->D->Bool
 | .i a, .i b=>decide (a=b)
 | .l xs, .l ys=>im_ xs ys
 | .t xs, .t ys=>im_ xs ys
 |_,_=>false
def im_:List D->List D->Bool
 |[],[]=>true
 |x::xs,y::ys=>eqD x y&&im_ xs ys
 |_,_=>false
end
mutual
def dep:D->Nat
 | .i _=>0
 | .l xs=>lR_ xs+1
 | .t xs=>lR_ xs+1
def lR_:List D->Nat
 |[]=>0
 |x::xs=>max (dep x) (lR_ xs)
end
mutual
theorem o8_:∀{a b:D},eqD a b=true↔a=b
 | .i a, .i b=>by simp [eqD]
 | .i _, .l _=>by simp [eqD]
 | .i _, .t _=>by simp [eqD]
 | .l _, .i _=>by simp [eqD]
 | .l xs, .l ys=>by simp [eqD,eh_ (xs:=xs) (ys:=ys)]
 | .l _, .t _=>by simp [eqD]
 | .t _, .i _=>by simp [eqD]
 | .t _, .l _=>by simp [eqD]
 | .t xs, .t ys=>by simp [eqD,eh_ (xs:=xs) (ys:=ys)]
theorem eh_:∀{xs ys:List D},im_ xs ys=true↔xs=ys
 |[],[]=>by simp [im_]
 |[],_::_=>by simp [im_]
 |_::_,[]=>by simp [im_]
 |x::xs,y::ys=>by simp [im_,o8_ (a:=x) (b:=y),eh_ (xs:=xs) (ys:=ys)]
end
theorem gt_:∀{xs ys:List D},xs.length=ys.length->im_ xs ys=(List.range xs.length).all fun j=>eqD (xs.getD j (.i 0)) (ys.getD j (.i 0))
 |[],[],_=>by simp [im_]
 |x::xs,y::ys,h=>by
  have ih:=gt_ (xs:=xs) (ys:=ys) (by simpa using h);rw [im_,ih,Ag,List.range_succ_eq_map];simp [List.all_map,Function.comp_def]
theorem jr_ {xs ys:List D} (h:xs.length≠ys.length):im_ xs ys=false:=by
 cases e:im_ xs ys with
 |false=>rfl
 |true=>exact absurd (BW List.length (eh_.mp e)) h
mutual
theorem Is.eqr {K:W.Frag}{H:Hp}:∀{d e:D}{v w:V}{n:Nat},dep d<=n->Kin d e->Is H d v->Is H e w->EqR K H n v w (eqD d e)
 | .i a, .i b,_,_,n,_,_,h,k=>by
  rw [ee_ h,ee_ k,eqD];exact EqR.int n a b
 | .l xs, .l ys,_,_,0,hn,_,_,_=>absurd hn (by unfold dep;lia)
 | .l xs, .l ys,_,_,n+1,hn,hk,h,k=>by
  obtain⟨a,vs,rfl,ha,ra⟩:=dd_ h;obtain⟨b,ws,rfl,hb,rb⟩:=dd_ k;have hn':lR_ xs<=n:=by unfold dep at hn;lia
  have hk':j9_ xs ys:=by unfold Kin at hk;exact hk
  have l1:=ra.length;have l2:=rb.length;rw [eqD];by_cases hl:xs.length=ys.length
  .rw [gt_ hl,<-l1];exact EqR.lists _ (SqL.of ha) (SqL.of hb) (by lia) fun j x y hx hy=>Iss.eqr hn' hk' ra rb hx hy
  .rw [jr_ hl];exact EqR.lens (SqL.of ha) (SqL.of hb) (by lia)
 | .t xs, .t ys,_,_,0,hn,_,_,_=>absurd hn (by unfold dep;lia)
 | .t xs, .t ys,_,_,n+1,hn,hk,h,k=>by
  obtain⟨a,vs,rfl,ha,ra⟩:=l9_ h;obtain⟨b,ws,rfl,hb,rb⟩:=l9_ k;have hn':lR_ xs<=n:=by unfold dep at hn;lia
  have hk':j9_ xs ys:=by unfold Kin at hk;exact hk
  have l1:=ra.length;have l2:=rb.length;rw [eqD];have q:=EqR.tuples (d:=n) (fun j=>eqD (xs.getD j (.i 0)) (ys.getD j (.i 0))) (SqT.of (K:=K) ha) (SqT.of (K:=K) hb) fun j x y hx hy=>Iss.eqr hn' hk' ra rb hx hy;by_cases hl:xs.length=ys.length
  .rw [gt_ hl];rw [l1,l2,<-hl,Nat.min_self] at q;simpa using q
  .rw [jr_ hl];have z:(vs.length==ws.length)=false:=by rw [l1,l2];simpa using hl
   rw [z,CG] at q;exact q
 | .i _, .l _,_,_,_,_,hk,_,_=>by unfold Kin at hk;exact hk.elim
 | .i _, .t _,_,_,_,_,hk,_,_=>by unfold Kin at hk;exact hk.elim
 | .l _, .i _,_,_,_,_,hk,_,_=>by unfold Kin at hk;exact hk.elim
 | .l _, .t _,_,_,_,_,hk,_,_=>by unfold Kin at hk;exact hk.elim
 | .t _, .i _,_,_,_,_,hk,_,_=>by unfold Kin at hk;exact hk.elim
 | .t _, .l _,_,_,_,_,hk,_,_=>by unfold Kin at hk;exact hk.elim
theorem Iss.eqr {K:W.Frag}{H:Hp}:∀{xs ys:List D}{vs ws:List V}{n:Nat},lR_ xs<=n->j9_ xs ys->Iss H xs vs->Iss H ys ws->∀{j:Nat}{x y:V},vs[j]? =some x->ws[j]? =some y->
  EqR K H n x y (eqD (xs.getD j (.i 0)) (ys.getD j (.i 0)))
 |[],_,_,_,_,_,_,h,_,_,_,_,e,_=>by rw [cm_ h] at e;simp at e
 |_::_,[],_,_,_,_,_,_,k,_,_,_,_,e=>by rw [cm_ k] at e;simp at e
 |x::xs,y::ys,_,_,n,hn,hk,h,k,0,u,w,e1,e2=>by
  obtain⟨u',us,rfl,q,_⟩:=ba_ h;obtain⟨w',ws,rfl,q',_⟩:=ba_ k;simp at e1 e2;subst e1 e2;have hk':Kin x y/\j9_ xs ys:=by unfold j9_ at hk;exact hk
  have hd:dep x<=n:=by unfold lR_ at hn;lia
  exact Is.eqr (d:=x) (e:=y) hd hk'.1 q q'
 |x::xs,y::ys,_,_,n,hn,hk,h,k,j+1,u,w,e1,e2=>by
  obtain⟨u',us,rfl,_,r⟩:=ba_ h;obtain⟨w',ws,rfl,_,r'⟩:=ba_ k;have hk':Kin x y/\j9_ xs ys:=by unfold j9_ at hk;exact hk
  have hd:lR_ xs<=n:=by unfold lR_ at hn;lia
  have:=Iss.eqr (K:=K) hd hk'.2 r r' (j:=j) (by simpa using e1) (by simpa using e2);simpa using this
end
abbrev Pt:=Int×Int
def pt (p:Pt):D:= .t [.i p.1, .i p.2]
def hid (H:Hp) (a:Addr):Hp:=fun b=>if b=a then none else H b
theorem nJ_ {H:Hp}{a b:Addr} (h:b≠a):hid H a b=H b:=by unfold hid;rw [A7 h]
theorem mS_ {H:Hp}{a:Addr}:hid H a a=none:=by unfold hid;rw [A9 rfl]
theorem mT_ {H:Hp}{a:Addr}:ak_ (hid H a) H:=fun b o e=>by
 unfold hid at e;split at e
 .cases e
 .exact e
theorem gr_ {H H':Hp}{a:Addr} (s:ak_ H H'):ak_ (hid H a) (hid H' a):=fun b o e=>by
 unfold hid at e⊢;split at e
 .cases e
 .rename_i h;rw [A7 h];exact s b o e
end L2
namespace L2
open PySem PySem.Spec PyProof.Rows
section
variable {X:Cx}{es:List Expr}{t:TA}{pos:Pos}
def New (H:Hp) (o:HO) (Q:VK):Prop:=∀p H2,H p=none->ak_ H H2->H2 p=some o->Q (.ref p) H2
theorem New.at {H:Hp}{o:HO}{Q:VK} (q:New H o Q) {p:Addr} (np:H p=none):Q (.ref p) (upd H p o):=q p _ np (ak_.new np) ae_
def rc_ (t:TA):TE:=fun σ H Q=>t σ H fun xs H1=>xs.length<=sizeLine/\New H1 (.tup xs) Q
def rh_ (t:TA):TE:=fun σ H Q=>t σ H fun xs H1=>xs.length<=sizeLine/\New H1 (.lst xs) Q
theorem ce_ {x1} (h:PA X es t):PE X (.Tuple es x1 pos) (rc_ t):=by
 intro pins s σ H Q I hq;refine wpAny_Tuple_spliced (thn (h pos pins s σ H _ I hq) fun us s1 ⟨xs,H1,I1,r,z,q⟩=>⟨by rw [<-r.length];exact z, ?_⟩);refine⟨.ref s1.heap.objs.size,upd H1 s1.heap.objs.size (.tup xs),I1.laid (t':=s1.toks) (fun b u e=>AB _ e) (A5 _) ?_,rfl,q.at (I1.hok.fresh (A5 _))⟩;exact⟨z,us,r,⟨_,AH _ rfl,rfl,_,rfl⟩⟩
theorem cf_ (h:PA X es t):PE X (.List es pos) (rh_ t):=by
 intro pins s σ H Q I hq;refine wpAny_List_spliced (thn (h pos pins s σ H _ I hq) fun us s1 ⟨xs,H1,I1,r,z,q⟩=>⟨by rw [<-r.length];exact z, ?_⟩);refine⟨.ref s1.heap.objs.size,upd H1 s1.heap.objs.size (.lst xs),I1.laid (t':=s1.toks) (fun b u e=>AB _ e) (A5 _) ?_,rfl,q.at (I1.hok.fresh (A5 _))⟩;exact⟨z,us,0,r,AH _ rfl⟩
theorem OpR.imp {f:Value->Value->Sem Value}{r r':R2} (h:OpR X f r) (k:∀x y H Q,r' x y H Q->r x y H Q):OpR X f r':=fun pins s σ H x y v u Q I rx ry q=>h pins s σ H x y v u Q I rx ry (k _ _ _ _ q)
theorem ca_.imp {f:Value}{r r':List V->Hp->VK->Prop} (h:ca_ X f r) (k:∀xs H Q,r' xs H Q->r xs H Q):ca_ X f r':=fun pins s σ H xs us Q I rs q=>h pins s σ H xs us Q I rs (k _ _ _ q)
theorem oC_:OpR X (binaryOp .Add) (fun x y H Q=>∃xs zs,Is H (.l xs) x/\Is H (.l zs) y/\xs.length+zs.length<=sizeLine/\∀p H2,H p=none->ak_ H H2->Is H2 (.l (xs++zs)) (.ref p)->Q (.ref p) H2):=
 qm_.imp fun x y H Q ⟨xs,zs,hx,hz,hl,q⟩=>by
  obtain⟨a,vs,rfl,ha,ra⟩:=dd_ hx;obtain⟨b,ws,rfl,hb,rb⟩:=dd_ hz;exact⟨a,b,vs,ws,rfl,rfl,ha,hb,by rw [ra.length,rb.length];exact hl,fun p np=>q p _ np (ak_.new np) (fg_ ae_ ((ra.append rb).mono (ak_.new np)))⟩
theorem kI_ {α:Type}{x:α}:∀n:Nat,(List.replicate n [x]).flatten=List.replicate n x
 |0=>rfl
 |n+1=>by rw [Aj,C7,kI_ n,Aj];rfl
theorem k3_:OpR X (binaryOp .Mult) (fun x y H Q=>∃d n,Is H (.l [d]) x/\y= .int n/\-(2^63)<=n/\n<2^63/\n.toNat<=sizeLine/\∀p H2,H p=none->ak_ H H2->Is H2 (.l (List.replicate n.toNat d)) (.ref p)->Q (.ref p) H2):=
 k4_.imp fun x y H Q ⟨d,n,hx,ey,h1,h2,hl,q⟩=>by
  obtain⟨a,vs,rfl,ha,ra⟩:=dd_ hx;obtain⟨u,us,rfl,hu,ru⟩:=ba_ ra;rw [cm_ ru] at ha;refine⟨a,n,_,rfl,ey,ha,h1,h2,by rw [BM,Nat.one_mul];exact hl,fun p np=>q p _ np (ak_.new np) ?_⟩;rw [kI_];exact fg_ ae_ ((Iss.rep hu _).mono (ak_.new np))
theorem fi_:ca_ X (.type "tuple") (fun vs H Q=>∃v xs,vs=[v]/\Is H (.l xs) v/\∀p H2,H p=none->ak_ H H2->Is H2 (.t xs) (.ref p)->Q (.ref p) H2):=
 gx_.imp fun vs H Q ⟨v,xs,ev,hx,q⟩=>by
  subst ev;obtain⟨a,ws,rfl,ha,ra⟩:=dd_ hx;exact⟨a,ws,rfl, .inl ⟨SqL.of ha,fun p np=>q p _ np (ak_.new np) (nD_ ae_ (ra.mono (ak_.new np)))⟩⟩
theorem rU_ {α:Type}{xs:List α}{i:Int}{j:Nat}{x:α} (e:i=j) (h:xs[j]? =some x):atI xs i=some x:=by rw [e];exact l5_ h
theorem Iss.atI {H:Hp}{xs:List D}{vs:List V}{i:Int}{x:D} (h:Iss H xs vs) (e:L2.atI xs i=some x):∃u,L2.atI vs i=some u/\Is H x u:=by
 unfold L2.atI at e⊢;rw [h.length];cases q:ixN xs.length i with
 |none=>rw [q] at e;cases e
 |some j=>
  rw [q] at e;obtain⟨u,e1,k⟩:=h.get (j:=j) e;exact⟨u,e1,k⟩
theorem mQ_:IxR X (fun x y H Q=>∃xs i d,Is H (.l xs) x/\y= .int i/\atI xs i=some d/\∀u,Is H d u->Q u H):=by
 intro value slice pins s σ H x y v u Q I rx ry h hs;obtain⟨xs,i,d,hx,ey,e,q⟩:=h;obtain⟨a,vs,rfl,ha,ra⟩:=dd_ hx;obtain⟨z,ez,hz⟩:=ra.atI e;exact cg_ value slice pins s σ H (.ref a) y v u Q I rx ry ⟨a,vs,i,z,rfl,ey,SqL.of ha,ez,q z hz⟩ hs
theorem bc_:IxR X (fun x y H Q=>∃xs i d,Is H (.t xs) x/\y= .int i/\atI xs i=some d/\∀u,Is H d u->Q u H):=by
 intro value slice pins s σ H x y v u Q I rx ry h hs;obtain⟨xs,i,d,hx,ey,e,q⟩:=h;obtain⟨a,vs,rfl,ha,ra⟩:=l9_ hx;obtain⟨z,ez,hz⟩:=ra.atI e;exact cp_ value slice pins s σ H (.ref a) y v u Q I rx ry ⟨a,vs,i,z,rfl,ey,SqT.of ha,ez,q z hz⟩ hs
end
end L2
namespace L2
open PySem PySem.Spec PyProof.Rows
section
variable {P:Program}{w:World}{H:Hp}{h:Heap}{a:Addr}{o:HO}
theorem aQ_.obj (x:aQ_ P w H h a o):∃ob,h.get? a=some ob:=by
 cases o with
 |lst xs=>obtain⟨_,_,_,_,e⟩:=x;exact⟨_,e⟩
 |tup xs=>obtain⟨_,_,_,_,e,_⟩:=x;exact⟨_,e⟩
 |dK kvs=>obtain⟨_,_,_,_,_,_,_,e,_⟩:=x;exact⟨_,e⟩
 |dT kvs=>obtain⟨_,_,_,_,_,_,_,e,_⟩:=x;exact⟨_,e⟩
 |set S n=>obtain⟨_,_,_,_,e,_⟩:=x;exact⟨_,e⟩
 |ins C dx fs=>obtain⟨_,_,_,e,_⟩:=x;exact⟨_,e⟩
 |own y=>exact x
 |xd fs=>obtain⟨_,⟨_,_,_,e,_⟩,_⟩:=x;exact⟨_,e⟩
 |rng lo hi=>obtain⟨_,_,_,e⟩:=x;exact⟨_,e⟩
 |frz ob u=>exact⟨_,x.1⟩
 |tbl ps=>exact⟨_,x⟩
 |met f y=>exact⟨_,x⟩
 |ext φ=>exact x.2.1
end
def CX1 (P:Program) (w:World):CXT:=fun outer H s E e s'=>
 ∃(a C:Addr) (H':Hp) (B:Heap) (a0:Value),e= .ref a/\E (.ref C) none H'/\s'.os=s.os/\AllBare s'.gens/\Un (frs outer) [] H H' s.heap s'.heap/\HOk P w H' B/\H' a=none/\
  Heap.FlyingW B outer a (.ref C) a0 s'.heap/\(∀b o,s.heap.get? b=some o->H b=none->b∉frs outer->B.get? b=some o)/\(∀b o,s.heap.get? b=some o->b∉frs outer->∃o',B.get? b=some o')
def l8_ (X:Cx) (E:XK):Prop:=∀(pins:List (Addr×Obj)) (σ:St) (H:Hp) (s:Shared) (h':Heap) (e C:Addr) (args:List Value),Inv X pins σ H s->Heap.MadeExcOf s.heap h' e (.ref C) args->E (.ref C) none H->X.xe (.ref e) {s with heap:=h'}
theorem gT_ {X:Cx}{P:Program}{w:World}:d3_ (CX1 P w) X E0:=fun _ _ _ _ _ _ _ ⟨_,_,_,_,_,_,z,_⟩=>z.elim
section
variable {X:Cx}{pins:List (Addr×Obj)}{σ:St}{H H':Hp}{s s':Shared}{B h':Heap}{l:List Env}
theorem kf_ (u:Un (frs l) [] H H' s.heap s'.heap) (fl:s'.heap.FunFrames B l) (kB:∀b o,s.heap.get? b=some o->H b=none->b∉frs l->B.get? b=some o) (tB:∀b o,s.heap.get? b=some o->b∉frs l->∃o',B.get? b=some o')
  (st:B.StaysIn h') (up:s'.heap.UpToSlots h'):Un (frs l) [] H H' s.heap h' where
 keep:=fun b o e n hb _=>st b o (kB b o e n hb)
 slot:=fun b o e n hb hx=>by
  obtain⟨sl,e1⟩:=u.slot b o e n hb hx;obtain⟨_,o',e2,d⟩:=fl.mem hb;rw [e1] at e2;cases e2;obtain⟨sl',e3⟩:=up b _ e1 d;exact⟨sl',e3⟩
 free:=u.free
 there:=fun b o e hx=>by
  by_cases hb:b∈frs l
  .obtain⟨_,o',e2,d⟩:=fl.mem hb;obtain⟨sl',e3⟩:=up b _ e2 d;exact⟨_,e3⟩
  .obtain⟨o',e2⟩:=tB b o e hb;exact⟨o',st b o' e2⟩
 tups:=u.tups
 frzs:=u.frzs
 tbls:=u.tbls
theorem Inv.nstk (I:Inv X pins σ H s) {b:Addr}{o:Obj} (e:X.s₀.heap.get? b=some o) (hb:b∉X.fs):b∉frs X.stack:=fun z=>by
 rcases AN.mp (I.stkSub b z) with q|q
 .exact absurd q (AI (AY (AF e) I.ok.above))
 .exact hb q
theorem nO_ {env:Env}{b:Addr} (he:env∈l) (hf:env.frame=some b):b∈frs l:=D3.mpr ⟨env,he,hf⟩
theorem Inv.hidden (I:Inv X pins σ H s):HOk X.prog X.w H (W.hideAll s.heap (frs X.stack)):=fun a o e=>by
 refine(I.hok a o e).stay (fun b u hb q=>W.hideAll_get _ q fun z=> ?_) (fun _ q=>q) fun _ _ q=>q;have n:=I.stkFree b z;rcases hb with rfl|hb
 .rw [n] at e;cases e
 .rw [n] at hb;cases hb
structure Fnc (X:Cx):Prop where
 ex:X.ex=[]
 stk:X.stack=X.env::X.outer
 fr:X.env.frame=some X.env.locals
theorem CX1.mk {E:XK}{e C:Addr}{a0:Value} (F:Fnc X) (I:Inv X pins σ H s) (os:s'.os=s.os) (bare:AllBare s'.gens) (u:Un (frs X.stack) [] H H' s.heap s'.heap) (hB:HOk X.prog X.w H' B) (hE:E (.ref C) none H') (hn:H' e=none)
  (fl:Heap.FlyingW B X.outer e (.ref C) a0 s'.heap) (kB:∀b o,s.heap.get? b=some o->H b=none->b∉frs X.stack->B.get? b=some o) (tB:∀b o,s.heap.get? b=some o->b∉frs X.stack->∃o',B.get? b=some o'):
  CX1 X.prog X.w X.outer X.H₀ X.s₀ E (.ref e) s':=by
 have J:Inv X pins σ H' s':=I.call' (ch:=[]) os u (hB.kept fl.1) bare fun _ z=>absurd z (by simp);have ub:Un X.fs X.ex X.H₀ H' X.s₀.heap s'.heap:=J.base;have nx:∀b:Addr,b∉X.ex:=fun b=>by rw [F.ex];simp
 rw [F.ex] at ub;refine⟨e,C,H',B,a0,rfl,hE,J.os,J.bare,ub,hB,hn,fl,fun b o q n hb=> ?_,fun b o q hb=> ?_⟩
 .exact kB b o (I.base.keep b o q n hb (nx b)) (I.base.free b o q n (nx b)) (I.nstk q hb)
 .obtain⟨o',q'⟩:=I.base.there b o q (nx b);exact tB b o' q' (I.nstk q hb)
theorem kJ_ {CX:CXT}{E:XK} (F:Fnc X) (hcx:CX=CX1 X.prog X.w) (hxe:X.xe=fun e s'=>wpAny (model X.prog X.w) X.A (leaving X.env e) (fun _ s''=>CX X.outer X.H₀ X.s₀ E e s'') (fun e' s''=>CX X.outer X.H₀ X.s₀ E e' s'') s'):l8_ X E:=by
 intro pins σ H s h' e C args I hx hE;subst hcx;rw [hxe];have fb:=I.stack;have hl:s.heap.FunFrames (W.hideAll s.heap (frs X.stack)) (X.env::X.outer):=by
  rw [F.stk] at fb⊢;exact W.funFrames_hide fb fun env he b hb=>nO_ he hb
 refine wpAny_leaves_madeW (base:=W.hideAll s.heap (frs X.stack)) (by rw [I.ok.frames,F.stk]) F.fr (fun b o q=>W.of_hideAll _ q) hl hx fun h'' t fl _ _ up=> ?_;have kB:∀b o,s.heap.get? b=some o->b∉frs X.stack->(W.hideAll s.heap (frs X.stack)).get? b=some o:=fun b o q n=>W.hideAll_get _ q n;have hn:H e=none:=by
  cases q:H e with
  |none=>rfl
  |some o=>
   obtain⟨ob,z⟩:=(I.hok e o q).obj;rw [hx.new] at z;cases z
 have u0:Un (frs X.stack) [] H H s.heap h':=Un.kept hx.keeps;have fl':h'.FunFrames (W.hideAll s.heap (frs X.stack)) X.stack:=by
  rw [F.stk];rw [F.stk] at hl;exact hl.of_keeps fun b o q _=>⟨o,hx.keeps b o q,rfl⟩
 have u:Un (frs X.stack) [] H H s.heap h'':=kf_ (s':={s with heap:=h'}) u0 fl' (fun b o q _ n=>kB b o q n) (fun b o q n=>⟨o,kB b o q n⟩) fl.1 up;exact CX1.mk (s':={s with heap:=h''}) F I rfl I.bare u I.hidden hE hn fl (fun b o q _ n=>kB b o q n) (fun b o q n=>⟨o,kB b o q n⟩)
theorem kY_ {CX:CXT}{E:XK} (F:Fnc X) (hcx:CX=CX1 X.prog X.w) (hxe:X.xe=fun e s'=>wpAny (model X.prog X.w) X.A (leaving X.env e) (fun _ s''=>CX X.outer X.H₀ X.s₀ E e s'') (fun e' s''=>CX X.outer X.H₀ X.s₀ E e' s'') s'):d3_ (CX1 X.prog X.w) X E:=by
 intro pins σ H s e s' I hc;subst hcx;rw [hxe];obtain⟨a,C,H',B,a0,rfl,hE,os,bare,u,hB,hn,fl,kB,tB⟩:=hc;refine wpAny_leaves_onW (by rw [I.ok.frames,F.stk]) F.fr (by rw [<-F.stk];exact fl) fun h'' fl'' up=> ?_;exact CX1.mk (s':={s' with heap:=h''}) F I os bare (kf_ u fl.2.2.1 kB tB fl''.1 up) hB hE hn fl'' kB tB
end
theorem Fun.okx {P:Program}{w:World}{K:W.Frag}{mg:Str->Option Value}{base:Heap}{x qual:Str}{st:Stmt}{f:Addr}{fd:FuncData}{N ps:List Str}{k:Nat}{sp:Sp} (F:Fun K x qual st f fd) (S:FnScope N ps (ab_ st)) (len:∀vs H Q E,sp vs H Q E->vs.length=ps.length)
  (hbody:∀(cdv:Value) (A:Around) (outer:List Env) (s:Shared) (H:Hp) (vs:List V) (Q:VK) (E:XK),Room k (A.deeper (envOfC qual (ab_ st) s.heap.objs.size f cdv))->sp vs H Q E->
   l8_ (j8_ (CX1 P w) P w K mg base N qual (ab_ st) f cdv A outer s H E) E->d3_ (CX1 P w) (j8_ (CX1 P w) P w K mg base N qual (ab_ st) f cdv A outer s H E) E->
   ∃t,PSs (j8_ (CX1 P w) P w K mg base N qual (ab_ st) f cdv A outer s H E) (am_ st) t/\t {nx:=fun _ H'=>Q .non H',rt:=Q} (start N vs) H):FnOk P w K mg base (CX1 P w) (k+1) f fd ps sp:=by
 obtain⟨oc,od,kV,doc,pm,an,cdv,ct,osl,rfl,lk,hcd⟩:=F.ex;refine qK_ lk hcd S len fun A outer s H vs Q E hr hsp=> ?_;have Fn:Fnc (j8_ (CX1 P w) P w K mg base N qual (ab_ st) f cdv A outer s H E):=⟨rfl,rfl,rfl⟩;exact hbody cdv A outer s H vs Q E hr hsp (kJ_ Fn rfl rfl) (kY_ Fn rfl rfl)
theorem Fun.oky {P:Program}{w:World}{K:W.Frag}{mg:Str->Option Value}{base:Heap}{x qual:Str}{st:Stmt}{f:Addr}{fd:FuncData}{N ps:List Str}{k:Nat}{sp:Sp} (F:Fun K x qual st f fd) (S:FnScope N ps (ab_ st)) (len:∀vs H Q E,sp vs H Q E->vs.length=ps.length)
  (hbody:∀(cdv:Value) (A:Around) (outer:List Env) (s:Shared) (H:Hp) (vs:List V) (Q:VK) (E:XK),Room k (A.deeper (envOfC qual (ab_ st) s.heap.objs.size f cdv))->sp vs H Q E->
   Fnc (j8_ CX0 P w K mg base N qual (ab_ st) f cdv A outer s H E).nox->
   ∃t,PSs (j8_ CX0 P w K mg base N qual (ab_ st) f cdv A outer s H E).nox (am_ st) t/\t {nx:=fun _ H'=>Q .non H',rt:=Q} (start N vs) H):FnOk P w K mg base CX0 (k+1) f fd ps sp:=
 F.ok S len fun cdv A outer s H vs Q E hr hsp=>hbody cdv A outer s H vs Q E hr hsp ⟨rfl,rfl,rfl⟩
section
variable {X:Cx}{pos np cpos:Pos}{x:Str}{C:Addr}{E:XK}{e:Expr}{es:List Expr}{t:TA}
abbrev bmV:List Value:=[.type "ValueError", .type "Exception", .type "BaseException", .type "object"]
theorem o6_ {K:W.Frag}{h:Heap}{bmB:List Value}{newId:String} (Y:K.In h) (q:W.excIn K C bmB newId=true):
  ∃bm N nm qn bs hdct sn sub ab col dd k0 k1 k2 k3 k5 mN,h.get? C=some (excClassObj nm qn C N bs bm hdct sn sub ab col dd k0 k1 k2 k3 k5 newId)/\h.Ns N mN/\mN "__init__"=none/\OwnTail h bmB bm:=by
 unfold W.excIn at q;split at q
 case h_2=>cases q
 rename_i dd cd sl ho;split at q
 case h_2=>cases q
 rename_i C' bm k0 k1 k2 k3 n k5 hm hs;rw [AE,AE,AE,AE,AE,Ch,Ch,Ch,Bool.not_eq_true'] at q;obtain⟨⟨⟨⟨⟨e1,e2⟩,e3⟩,e4⟩,e5⟩,e6⟩:=q;subst e1 e2;rcases cd with⟨nm,bs,mro,ns,qn,hd,sn,sub,ab,col,del⟩;dsimp only at hm e3 e5 e6;subst hm e3;have hsl:sl= #[k0,k1,k2,k3,some (.builtin n),k5]:=by
  rcases sl with⟨l⟩;have hs':l=_:=hs;rw [hs']
 subst hsl;exact⟨bm,ns,nm,qn,bs,hd,sn,sub,ab,col,dd,k0,k1,k2,k3,k5,_,Y _ _ ho, .of_isNs (W.isNs_of_in Y e5),W.nsMap_none_of_in Y e5 e6,W.tail_of_in Y e4⟩
def nj_ (C:Addr) (E:XK) (t:TA):TS:=fun _ σ H=>t σ H fun vs H1=>vs.length<=sizeLine/\E (.ref C) none H1
theorem mw_ (hR:l8_ X E) (hg:Gl X x) (hm:X.mg x=some (.ref C)) (hC:W.excIn X.K C bmV "ValueError.__new__"=true) (hc:X.calm=true) (ha:PA X (e::es) t) (hdb:(x==("__debug__":Str))=false:=by decide)
  (he:starEach (e::es) X.env=(false,eval e X.env)::starEach es X.env:=by rfl) (hpl:(backTo cpos (starEach es X.env)).any (·.1)=false:=by rfl):
  PS X (.Raise (some (.Call (.Name x np) (e::es) [] cpos)) none pos) (nj_ C E t):=by
 intro pins s σ H D I h;have hcl:=I.ok.mod.kin;obtain⟨bm',N',nm',qn',bs',hdct',sn',sub',ab',col',dd',k0',k1',k2',k3',k5',mN',hCb,hNb,hnib,TLb⟩:=o6_ hcl hC;refine wpAny_Raise_call_subT (q:=qn') (N:=N') (bs:=bs') (bm:=bm') (hdct:=hdct') (sn:=sn') (sub:=sub') (ab:=ab') (col:=col') (dd:=dd') (k0:=k0') (k1:=k1') (k2:=k2') (k3:=k3') (k5:=k5') (nm:=nm') (mN:=mN') PySem.F.excBase_ValueError
  (TLb.hasType (by ac_nf)) (I.ok.hd hc) (by rw [he];show(false||(backTo cpos (starEach es X.env)).any (·.1))=false;rw [hpl];rfl) hnib (gl_ I hg hm ⟨rfl, ?_⟩ hdb)
 have h2:=ha cpos pins s σ H _ I h;rw [he] at h2⊢;refine Calls.evalArgs_plain (thn h2 fun us s1 ⟨vs,H1,I1,r,hz,hE⟩=>⟨rfl,by rw [<-r.length];exact hz,I1.bk _ _ hCb,hNb.keeps I1.bk,TLb.keeps I1.bk,fun h' e' hx=> ?_⟩);exact hR pins σ H1 s1 h' e' C us I1 hx hE
end
theorem PS.quiet {X:Cx}{st:Stmt}{t:TS} (h:PS X.nox st t):PS X st t:=fun pins s σ H D I hw=>BH (h pins s σ H D (I.wish _) hw) (fun _ _ q=>q.unwish) fun _ _ z=>False.elim z
section
variable {X:Cx}{pos:Pos}{e v:Expr}{es:List Expr}{te:TE}
abbrev TJ:=Str->St->Hp->VK->Prop
def PJ (X:Cx) (es:List Expr) (t:TJ):Prop:=∀(out:Str) (pins:List (Addr×Obj)) (s:Shared) (σ:St) (H:Hp) (Q:VK),Inv X pins σ H s->t out σ H Q->wpAny (model X.prog X.w) X.A (joinParts out (evalEach es X.env)) (EP X pins σ Q) X.xe s
def tJn:TJ:=fun out _ H Q=>out.length<=sizeLine/\Q (.str out) H
def tJc (te:TE) (tr:TJ):TJ:=fun out σ H Q=>te σ H fun x H1=>∃y,x= .str y/\(out++y).length<=sizeLine/\tr (out++y) σ H1 Q
theorem qa_:PJ X [] tJn:=fun out pins s σ H Q I h=>joinParts_nil ⟨.str out,H,I.tok _,⟨_,rfl⟩,h.2⟩ h.1
theorem f0_ {tr:TJ} (he:PE X e te) (hr:PJ X es tr):PJ X (e::es) (tJc te tr):=by
 intro out pins s σ H Q I h;show wpAny _ _ (joinParts out (eval e X.env::evalEach es X.env)) _ _ _;refine joinParts_cons (thn (he pins s σ H _ I h) fun u s1 ⟨x,H1,I1,r1,y,ex,hz,q1⟩=> ?_);subst ex;obtain⟨tk,rfl⟩:=r1;exact⟨hz,hr (out++y) pins s1 σ H1 Q I1 q1⟩
theorem oy_ {v2:Expr}{t:TJ} (h:PJ X (e::v2::es) t):PE X (.JoinedStr (e::v2::es) pos) (fun σ H Q=>t Str.empty σ H Q):=fun pins s σ H Q I hq=>JoinedStr_many (h Str.empty pins s σ H Q I hq)
theorem kV_ (hv:PE X v te):PE X (.FormattedValue v (-1) none pos) (fun σ H Q=>te σ H fun x H1=>∃i,x= .int i/\i.natAbs.log2<1920/\Q (.str (toString i)) H1):=by
 intro pins s σ H Q I h;refine FormattedValue_plain (thn (hv pins s σ H _ I h) fun u s1 ⟨x,H1,I1,r1,i,ex,hz,q1⟩=> ?_);subst ex;obtain⟨tk,rfl⟩:=r1;exact formatField_int_small hz ⟨.str _,H1,I1.tok _,⟨_,rfl⟩,q1⟩
end
section
variable {X:Cx}{CX:CXT}{ps:List Str}{sp:Sp}{E:XK}{x:Str}{p pos:Pos}{e:Expr}{es:List Expr}{t:TA}{i:Nat}
end
end L2
namespace L2
open PySem PySem.Calls PyProof.Rows PySem.W Builtin Builtin.ObjectAttr Builtin.Getset_descriptor
structure XC (K:Frag) (C:Addr):Prop where
 cl:(clsIn K C).isSome=true
 ga:findIn K (.ref C) "__getattribute__"=some (some (.builtin "BaseException.__getattribute__"))
 gt:findIn K (.ref C) "__getattr__"=some none
 ca:findIn K (.ref C) "__class__"=some (some (.builtin "object.__class__"))
 gn:specialIn K (.builtin "object.__class__") "__get__"=some (some (.builtin "getset_descriptor.__get__"))
 tk:takesIn K (.builtin "object.__class__")=some true
 ob:mroIn K C (.type "object")=some true
 be:mroIn K C (.type "BaseException")=some true
section
variable {prog:Program}{w:World}{A:Around}{E:Value->Shared->Prop}{K:Frag}{x C:Addr}{h:Heap}{g:Array GenState}{d:Drawn}{t:Nat}{os:OsState}
theorem hL_ {M:Model}{o:Obj} (e:h.get? x=some o) (c:o.cls= .ref C):Looks M h (typeOf (.ref x)) (.ref C):=c▸(Looks.ld e).andThen .now
theorem pF_ {R:Result->Shared->Prop}{tp:Value} (Y:K.In h) (F:XC K C) (LT:∀M:Model,Looks M h (typeOf (.ref x)) (.ref C)) (q:R (.ok (.ret (.ref C))) ⟨h,g,d,t,os⟩):
  codeAny (model prog w) A (.call (.builtin "getset_descriptor.__get__") ⟨[.builtin "object.__class__", .ref x,tp],[]⟩) R ⟨h,g,d,t,os⟩:=by
 have L0:=LT (model prog w);have L1:=looks_mroIn (M:=model prog w) Y F.ob;refine codeAny_call_builtin KF.slot_gs.plain KF.entry_gs (KF.slot_gs.check _ _ _ _ _ _ _ _ KF.type_class (KF.args_gs _ _ _) ?_);unfold Builtin.«getset_descriptor.__get__» descrGet;rw [dga_obj];refine A0 (A3 ?_);unfold descrGetter descrCheckInstance descrNameAndClass isInstance;simp only [KF.owner_class]
 repeat lk
 refine⟨Code.quiet_builtin _ (by ac_nf),Bo KF.entry_class ?_⟩;unfold Builtin.«object.__class__» shownTypeOf
 repeat lk
 exact q
theorem n1_ {M:Model} (Y:K.In h) (F:XC K C):Looks M h (find (.ref x) (.ref C) "__class__") (.bind (.builtin "getset_descriptor.__get__") (.builtin "object.__class__")):=by
 have L1:=looks_findIn (M:=M) Y F.ca;have L2:Looks M h (getOf (some (.builtin "object.__class__"))) (some (.builtin "getset_descriptor.__get__")):=looks_specialIn Y F.gn;have L3:=looks_takesIn (M:=M) Y F.tk;exact L1.andThen (L2.andThen ((show Looks M h (dataDescriptor? (some (.builtin "object.__class__")) (some (.builtin "getset_descriptor.__get__"))) (some (.builtin "getset_descriptor.__get__", .builtin "object.__class__")) from L3.andThen .now).andThen (Looks.tag .now)))
theorem mb_ {tk:Tok}{Q:Fin->Shared->Prop} (Y:K.In h) (F:XC K C) (LT:∀M:Model,Looks M h (typeOf (.ref x)) (.ref C)) (q:Q (.done (.ret (.ref C))) ⟨h,g,d,t,os⟩):
  wpAny (model prog w) A (Builtin.«object.__getattribute__» ⟨[.ref x, .str "__class__" tk],[]⟩) Q E ⟨h,g,d,t,os⟩:=by
 have L0:=LT (model prog w);have L1:=n1_ (x:=x) (M:=model prog w) Y F;refine A0 (A3 (A0 (A3 (A0 (L0.at (A0 (L1.at ?_)))))));show wpAny _ _ (holding [.builtin "object.__class__"] (call (.builtin "getset_descriptor.__get__") [.builtin "object.__class__", .ref x, .ref C])>>=ret) _ _ _;exact A0 (An (wpAny_call (pF_ Y F LT (A3 q))))
theorem mc_ {nameV:Value}{M:Model}{Q:Unit->Shared->Prop} (Y:K.In h) (F:XC K C) (LT:∀M:Model,Looks M h (typeOf (.ref x)) (.ref C)) (q:Q () ⟨h,g,d,t,os⟩):
  wpAny M A (checkBuiltinCall "BaseException.__getattribute__" ⟨[.ref x,nameV],[]⟩) Q E ⟨h,g,d,t,os⟩:=by
 have e1:builtinKind "BaseException.__getattribute__"=some .slot:=by ac_nf
 have e2:splitId "BaseException.__getattribute__"=some ("BaseException","__getattribute__"):=by ac_nf
 have ha:=PySem.F.args_bexc_ga (.ref x) nameV;have L0:=LT M;have L1:=looks_mroIn (M:=M) Y F.be;simp only [checkBuiltinCall,e1,e2];refine A0 ?_;unfold isInstance
 repeat (first|lk|wp_step)
 exact q
theorem n2_ {Q:Option Value->Shared->Prop} (Y:K.In h) (F:XC K C) (LT:∀M:Model,Looks M h (typeOf (.ref x)) (.ref C)) (q:Q (some (.ref C)) ⟨h,g,d,t+1,os⟩):wpAny (model prog w) A (getAttr? (.ref x) "__class__") Q E ⟨h,g,d,t,os⟩:=by
 have L0:=LT (model prog w);have L1:=looks_findIn (M:=model prog w) Y F.ga;have L2:=looks_findIn (M:=model prog w) Y F.gt;have e2:(Value.builtin "BaseException.__getattribute__"==Value.builtin "object.__getattribute__")=false:=by ac_nf
 have e1:(onTheHeap (Value.ref C)&&Value.builtin "BaseException.__getattribute__"==Value.builtin "object.__getattribute__")=false:=by rw [e2];rfl
 have f3:=PySem.F.excAttr_ValueError.ga.bind (.ref x);unfold getAttr? getAttrBy? getAttrBy;refine A0 (wpAny_mkText (A0 (CH (An (A0 (L0.at (A0 (L1.at ?_))))))));dsimp only;rw [e1];simp only [AJ,As]
 repeat (any_goals (first|assumption|with_reducible refine L2.at ?_|wp_step))
 refine codeAny_call_builtin PySem.F.excAttr_ValueError.ga.plain PySem.F.entry_bexc_ga (mc_ Y F LT (mb_ Y F LT ?_))
 repeat (any_goals (first|assumption|lk|wp_step))
theorem i9_ (F:XC K C):KitX K (.ref x) (.ref C) (fun h=>∃o,h.get? x=some o/\o.cls= .ref C) where
 ty:=fun _ _ _ ⟨_,e,c⟩=>hL_ e c
 it:=fun _ _ Y _=>by
  have z:=F.cl;unfold clsIn at z;split at z
  .rename_i ho;intro A' Q' E' s' k q;unfold isType loadHead;exact A0 (wpAny_loadPart (k _ _ (Y _ _ ho)) (A3 q))
  .cases z
 ne:=fun h tp dd its n sl Y htp=>by
  have z:=F.cl;unfold clsIn at z;split at z
  .rename_i ho;refine Bool.eq_false_iff.mpr fun q=> ?_;have e:C=tp:=Value.ref.inj (Ch.mp q);subst e;have y:=(Y _ _ ho).symm.trans htp;cases y
  .cases z
 ca:=fun{_ _ _ _ _ s} Y ⟨_,e,c⟩ k=>by
  obtain⟨hh,g,d,t,os⟩:=s;exact n2_ Y F (fun M=>hL_ e c) k
end
def m0_ (C a:Addr):HO:= .ext fun h=>∃o,h.get? a=some o/\o.cls= .ref C
theorem o7_ {P:Program}{w:World}{H:Hp}{h:Heap}{a C:Addr} (e:∃o,h.get? a=some o/\o.cls= .ref C):aQ_ P w H h a (m0_ C a):=
 ⟨e,e.elim fun o q=>⟨o,q.1⟩,fun _ _ ⟨o,q,c⟩ k=>⟨o,k o q,c⟩⟩
def pB_:V->Option Value
 | .ty n=>some (.type n)
 | .ref c=>some (.ref c)
 |_=>none
theorem ju_ {v:V}{c u:Value} (e:pB_ v=some c) (r:be_ v u):u=c:=by
 cases v<;>first|(cases e;exact r)|cases e
section
variable {X:Cx}
theorem nb_:ca_ X (.builtin "isinstance") (fun xs H Q=>∃a C v c b,xs=[.ref a,v]/\H a=some (m0_ C a)/\XC X.K C/\pB_ v=some c/\kitOne X.K (.ref C) c=some b/\Q (.bl b) H):=by
 intro pins s σ H xs us Q I r h;obtain⟨a,C,v,c,b,rfl,ha,F,ev,e,q⟩:=h;obtain⟨u,w',rfl,ru,rw'⟩:=kd_ r;obtain rfl:u=Value.ref a:=ru;obtain rfl:=ju_ ev rw';exact kia_one (i9_ F) I.kIn (I.hok a _ ha).1 e (fun z=>nomatch z) fun tk=>⟨.bl b,H,I.tok tk,rfl,q⟩
theorem hy_ {K:Frag} (hK:X.K=K):ca_ X (.builtin "isinstance") (fun xs H Q=>∃a C v c b,xs=[.ref a,v]/\H a=some (m0_ C a)/\XC K C/\pB_ v=some c/\kitOne K (.ref C) c=some b/\Q (.bl b) H):=hK▸nb_
theorem hu_:∀{vs:List V}{cs its:List Value},vs.mapM pB_=some cs->aV_ vs its->its=cs
 |[],_,_,e, .nil=>by cases e;rfl
 |v::vs,cs,_,e, .cons r t=>by
  rw [List.mapM_cons] at e;obtain⟨c,e1,e⟩:=AA.mp e;obtain⟨cs',e2,e⟩:=AA.mp e;cases e;rw [ju_ e1 r,hu_ e2 t]
theorem l1_:ca_ X (.builtin "isinstance") (fun xs H Q=>∃a C p vs cs b,xs=[.ref a, .ref p]/\H a=some (m0_ C a)/\XC X.K C/\H p=some (.tup vs)/\vs.mapM pB_=some cs/\kitAny X.K (.ref C) cs=some b/\Q (.bl b) H):=by
 intro pins s σ H xs us Q I r h;obtain⟨a,C,p,vs,cs,b,rfl,ha,F,hp,ev,e,q⟩:=h;obtain⟨u,w',rfl,ru,rw'⟩:=kd_ r;obtain rfl:u=Value.ref a:=ru;obtain rfl:w'=Value.ref p:=rw';obtain⟨_,its,rv,⟨oc,od,dt,sl⟩,ho,hc,n,hd⟩:=(show aQ_ X.prog X.w H s.heap p (.tup vs) from I.hok p _ hp);simp only at hc hd;subst hc hd;obtain rfl:=hu_ ev rv;exact kia_tup (i9_ F) I.kIn (I.hok a _ ha).1 ho e (fun z=>nomatch z) fun tk=>⟨.bl b,H,I.tok tk,rfl,q⟩
theorem j2_ {K:Frag} (hK:X.K=K):ca_ X (.builtin "isinstance") (fun xs H Q=>∃a C p vs cs b,xs=[.ref a, .ref p]/\H a=some (m0_ C a)/\XC K C/\H p=some (.tup vs)/\vs.mapM pB_=some cs/\kitAny K (.ref C) cs=some b/\Q (.bl b) H):=hK▸l1_
end
end L2
namespace L2
open PySem PySem.Spec PyProof.Rows PySem.W
abbrev Cx.inTry (X:Cx) (pn:List (Addr×Obj)) (z:Value->Shared->Prop):Cx:={X with pn:=pn,xe:=z}
abbrev Cx.inSuite (X:Cx) (e:Addr):Cx:={X with A:=X.A.mark (some (.ref e)),calm:=false,xe:=fun _ _=>False}
def dK_ (σ:St):St:=σ.map fun _=>none
theorem fx_ {σ:St}{i:Nat}{v:V} (h:(dK_ σ)[i]? =some (some v)):False:=by
 unfold dK_ at h;rw [A6] at h;cases e:σ[i]? with
 |none=>rw [e] at h;cases h
 |some a=>rw [e] at h;cases h
section
variable {X:Cx}{pins pn:List (Addr×Obj)}{σ:St}{H H':Hp}{s s':Shared}{z:Value->Shared->Prop}{e:Addr}
theorem Inv.toTry (I:Inv X pins σ H s):Inv (X.inTry (X.pn++pins) z) [] σ H s:=
 ⟨⟨I.ok.mod,I.ok.kind,I.ok.glob,I.ok.blt,I.ok.above,I.ok.inj,I.ok.has,I.ok.cab,I.ok.hd,I.ok.frames,I.ok.stk,I.ok.exf,I.ok.bs,I.ok.bsz,I.ok.noex,I.ok.exfs,I.ok.funs,I.ok.frf⟩,
  I.os,I.bare,I.base,I.loc,I.cell,I.free,I.freeC,fun p hp=>I.pin p (by rw [C1] at hp;exact hp),I.hok,I.len⟩
theorem Inv.unTry {pins':List (Addr×Obj)} (I:Inv (X.inTry (X.pn++pins) z) pins' σ H s):Inv X pins σ H s:=
 ⟨⟨I.ok.mod,I.ok.kind,I.ok.glob,I.ok.blt,I.ok.above,I.ok.inj,I.ok.has,I.ok.cab,I.ok.hd,I.ok.frames,I.ok.stk,I.ok.exf,I.ok.bs,I.ok.bsz,I.ok.noex,I.ok.exfs,I.ok.funs,I.ok.frf⟩,
  I.os,I.bare,I.base,I.loc,I.cell,I.free,I.freeC,fun p hp=>I.pin p (List.mem_append_left _ hp),I.hok,I.len⟩
theorem Inv.toSuite (I:Inv X pins σ H s):Inv (X.inSuite e) pins σ H s:=
 ⟨⟨I.ok.mod,I.ok.kind,I.ok.glob,I.ok.blt,I.ok.above,I.ok.inj,I.ok.has,I.ok.cab,fun q=>absurd q AQ,I.ok.frames,I.ok.stk,I.ok.exf,I.ok.bs,I.ok.bsz,I.ok.noex,I.ok.exfs,I.ok.funs,I.ok.frf⟩,
  I.os,I.bare,I.base,I.loc,I.cell,I.free,I.freeC,I.pin,I.hok,I.len⟩
theorem Inv.unSuite (hd:X.calm=true->X.A.handled=none) (I:Inv (X.inSuite e) pins σ H s):Inv X pins σ H s:=
 ⟨⟨I.ok.mod,I.ok.kind,I.ok.glob,I.ok.blt,I.ok.above,I.ok.inj,I.ok.has,I.ok.cab,hd,I.ok.frames,I.ok.stk,I.ok.exf,I.ok.bs,I.ok.bsz,I.ok.noex,I.ok.exfs,I.ok.funs,I.ok.frf⟩,
  I.os,I.bare,I.base,I.loc,I.cell,I.free,I.freeC,I.pin,I.hok,I.len⟩
theorem SP.unTry {D:Ends}{f:Flow} (h:SP (X.inTry (X.pn++pins) z) [] D f s'):SP X pins D f s':=by
 cases f with
 |next=>obtain⟨σ',H',I,q⟩:=h;exact⟨σ',H',I.unTry,q⟩
 |brk=>obtain⟨σ',H',I,q⟩:=h;exact⟨σ',H',I.unTry,q⟩
 |cont=>obtain⟨σ',H',I,q⟩:=h;exact⟨σ',H',I.unTry,q⟩
 |ret u=>obtain⟨v,σ',H',I,r,q⟩:=h;exact⟨v,σ',H',I.unTry,r,q⟩
theorem Inv.goes {h':Heap}{m':Str->Option Value}{t':Nat} (I:Inv X pins σ H s) (hn:h'.Ns X.env.locals m') (hs:Heap.SameBut X.env.locals s.heap h'):Inv X pins (dK_ σ) H {s with heap:=h',toks:=t'}:=by
 have lt:∀{b:Addr}{o:Obj},X.s₀.heap.get? b=some o->b≠X.env.locals:=fun e=>AI (AY (AF e) I.ok.above);refine⟨I.ok,I.os,I.bare,⟨fun b o e n hb hx=> ?_,fun b o e n hb hx=> ?_,I.base.free,fun b o e hx=> ?_,I.base.tups,I.base.frzs,I.base.tbls⟩,⟨m',hn,fun i x v _ e2 _=>(fx_ e2).elim⟩,fun y c e=> ?_,I.free,I.freeC,fun p hp=> ?_,fun b ob e=> ?_, ?_⟩
 .exact(hs.2 b (lt e)).trans (I.base.keep b o e n hb hx)
 .obtain⟨sl,e1⟩:=I.base.slot b o e n hb hx;exact⟨sl,(hs.2 b (lt e)).trans e1⟩
 .obtain⟨o',e1⟩:=I.base.there b o e hx;exact⟨o',(hs.2 b (lt e)).trans e1⟩
 .obtain⟨w',q⟩:=I.cell y c e;exact⟨w',q.sameBut hs (I.cne y c e)⟩
 .obtain⟨e,n,ne,nf,d⟩:=I.pin p hp;exact⟨(hs.2 p.1 ne).trans e,n,ne,nf,d⟩
 .refine(I.hok b ob e).stay (fun c v hc q=>(hs.2 c fun ec=> ?_).trans q) (fun _ q=>q) fun _ _ q=>q;have fr:=I.free;rw [<-ec] at fr;rcases hc with rfl|hc
  .rw [fr] at e;cases e
  .rw [fr] at hc;cases hc
 .unfold dK_;rw [A2];exact I.len
theorem Inv.nones (I:Inv X pins σ H s):Inv X pins (L2.dK_ σ) H s:=I.weak (by unfold L2.dK_;rw [A2]) fun i v e=>(fx_ e).elim
theorem Inv.hold {C:Addr} (I:Inv X pins σ H s) (hn:H e=none) (hL:e≠X.env.locals) (hnew:X.s₀.heap.get? e=none/\(∀x c,X.env.cells.lookup x=some c->c≠e)/\(∀p∈X.pn++pins,p.1≠e)) (ho:∃o,s.heap.get? e=some o/\o.cls= .ref C):
  Inv X pins σ (upd H e (m0_ C e)) s:=by
 obtain⟨n0,nc,np⟩:=hnew;have ne0:∀{b:Addr}{o:Obj},X.s₀.heap.get? b=some o->b≠e:=fun{b o} q z=>by rw [z,n0] at q;cases q
 have neh:∀{b:Addr}{o:HO},H b=some o->b≠e:=fun q=>ao_ q hn;refine⟨I.ok,I.os,I.bare,⟨I.base.keep,I.base.slot,fun b o q n hx=> ?_,I.base.there,fun b xs q=> ?_,fun b o u q=> ?_,fun b ps q=> ?_⟩,I.loc,I.cell, ?_,fun x c q=> ?_,fun p hp=> ?_,fun b o q=> ?_,I.len⟩
 .rw [aj_ (ne0 q)];exact I.base.free b o q n hx
 .have z:=I.base.tups b xs q;rw [aj_ (neh z)];exact z
 .have z:=I.base.frzs b o u q;rw [aj_ (neh z)];exact z
 .obtain⟨more,z⟩:=I.base.tbls b ps q;exact⟨more,by rw [aj_ (neh z)];exact z⟩
 .rw [aj_ (Ne.symm hL)];exact I.free
 .rw [aj_ (nc x c q)];exact I.freeC x c q
 .obtain⟨a1,a2,a3⟩:=I.pin p hp;exact⟨a1,by rw [aj_ (np p hp)];exact a2,a3⟩
 .by_cases hb:b=e
  .subst hb;rw [ae_] at q;cases q;exact o7_ ho
  .rw [aj_ hb] at q;exact(I.hok b o q).stay (fun _ _ _ q=>q) (fun c q=>by rw [aj_ (neh q)];exact q) fun c xs q=>by rw [aj_ (neh q)];exact q
end
def Ends.forget (D:Ends) (n:Nat):Ends:={nx:=fun _ H=>D.nx (List.replicate n none) H,rt:=D.rt,bk:=fun _ H=>D.bk (List.replicate n none) H,ct:=fun _ H=>D.ct (List.replicate n none) H}
theorem g2_ {σ:St}:dK_ σ=List.replicate σ.length none:=by
 unfold dK_;induction σ with
 |nil=>rfl
 |cons a r ih=>rw [AW,ih,Ag,Aj]
def sv_ (K:Frag) (hc:Addr) (i n:Nat) (tb:XK->TS) (ts:TS):TS:=fun D σ H=>∃E:XK,tb E D σ H/\
 ∀(C e:Addr) (H':Hp),E (.ref C) none H'->H' e=none->exmOne K (.ref C) (.ref hc)=some true/\ts (D.forget n) ((List.replicate n none).set i (some (.ref e))) (upd H' e (m0_ C e))
theorem p8_ {X:Cx}{x n:Str}{hc:Addr}{i len:Nat}{body suite:List Stmt}{b₀:Stmt}{tb:XK->TS}{ts:TS}{np hpos pos:Pos} (F:Fnc X) (hl:X.N.length=len) (hN:X.N.Nodup) (hi:X.N[i]? =some n) (hx:Loc X.env.scope n) (hloc:X.env.kindOf n=some .local) (hg:Gl X x) (hm:X.mg x=some (.ref hc))
  (hb:∀(E:XK) pn z,d3_ (CX1 X.prog X.w) (X.inTry pn z) E->PSs (X.inTry pn z) body (tb E)) (hs:∀e,PSs (X.inSuite e) (b₀::suite) ts) (hf:X.fn n=true\/X.env.scope.names.lookup n=some .local:=by first|exact .inl rfl|exact .inr rfl) (hdb:(x==("__debug__":Str))=false:=by decide):
  PS X (.Try body [.ExceptHandler (some (.Name x np)) (some n) (b₀::suite) hpos] [] [] pos) (sv_ X.K hc i len tb ts):=by
 intro pins s σ H D I ⟨E,hw,hE⟩;have hP:d3_ (CX1 X.prog X.w) (X.inTry (X.pn++pins) fun e s'=>∃σ' H s,Inv X pins σ' H s/\CX1 X.prog X.w X.stack H s E e s') E:=fun pins' σ' H1 s1 e s' J q=>⟨σ',H1,s1,J.unTry,q⟩;refine wpAny_Try_except (BH (hb E _ _ hP [] s σ H D I.toTry hw) (fun f s1 q=> ?_) fun ev s1 q=> ?_)
 .have q':=SP.unTry q;cases f with
  |next=>exact D8 q'
  |ret u=>exact q'
  |brk=>exact q'
  |cont=>exact q'
 obtain⟨σ1,H1,s0,I0,a,C,H',B,a0,rfl,hEE,os,bare,u,hB,hn,fl,kB,tB⟩:=q;obtain⟨hmt,hts⟩:=hE C a H' hEE hn;have nfr:a∉frs X.stack:=fun z=>by
  obtain⟨_,o,e1,d⟩:=fl.2.2.1.mem z;obtain⟨oe,vs,e2,_,dd,_⟩:=fl.first;rw [e1] at e2;cases e2;exact d _ dd
 have at_:∀{h5:Heap},B.StaysIn h5->s1.heap.UpToSlots h5->Inv X pins σ1 H' {s1 with heap:=h5}:=fun{h5} st up=>
  I0.call' (s':={s1 with heap:=h5}) (ch:=[]) os (kf_ u fl.2.2.1 kB tB st up) (hB.kept st) bare fun _ z=>absurd z (by simp)
 have bn:=fl.2.1;have new0:s0.heap.get? a=none:=by
  cases q:s0.heap.get? a with
  |none=>rfl
  |some o=>
   obtain⟨o',z⟩:=tB a o q nfr;rw [bn] at z;cases z
 have hnL:a≠X.env.locals:=fun z=>nfr (by rw [F.stk,z];exact nO_ (BA ..) F.fr);have new:X.s₀.heap.get? a=none/\(∀x c,X.env.cells.lookup x=some c->c≠a)/\(∀p∈X.pn++pins,p.1≠a):=by
  refine⟨?_,fun y c q z=> ?_,fun p hp z=> ?_⟩
  .cases q:X.s₀.heap.get? a with
   |none=>rfl
   |some o=>
    obtain⟨o',z⟩:=I0.base.there a o q (by rw [F.ex];simp);rw [new0] at z;cases z
  .obtain⟨v,o,q1,_⟩:=I0.cell y c q;rw [z,new0] at q1;cases q1
  .have q1:=(I0.pin p hp).1;rw [z,new0] at q1;cases q1
 refine wpAny_looks_onW (by rw [I.ok.frames,F.stk]) F.fr (by rw [<-F.stk];exact fl) fun h4 held4 up4=> ?_;refine wpAny_landsW held4 fun h5 fl5 up5=> ?_;have I5:Inv (X.inSuite a) pins σ1 H' {s1 with heap:=h5}:=(at_ fl5.1 (up4.trans up5)).toSuite;refine wpAny_handleBy_cons (codeAny_handlers_test (gl_ I5 hg hm ?_ hdb)) (by intro q;cases q);obtain⟨ob,ho,hcl⟩:=fl5.there;refine(exm_one (K:=X.K) I5.kIn (hL_ ho hcl) hmt).here ?_;refine codeAny_handlers_suite_as ?_;refine lands_againW fl5 fun h6 fl6 up6=> ?_;obtain⟨ob6,ho6,hcl6⟩:=fl6.there;have I6:Inv X pins (dK_ σ1) (upd H' a (m0_ C a)) {s1 with heap:=h6}:=((at_ fl6.1 ((up4.trans up5).trans up6)).nones).hold hn hnL new ⟨ob6,ho6,hcl6⟩;have es:(dK_ σ1)=List.replicate len none:=by rw [g2_,I0.len,hl]
 rw [es] at I6;refine de_ (X:=X.inSuite a) (v:= .ref a) I6.toSuite hN hi hx rfl (fun s7 I7=> ?_) hf;refine BH (hs a pins s7 _ _ _ I7 hts) (fun f s8 q=> ?_) fun _ _ z=>z.elim;have go:∀{σ8:St}{H8:Hp},Inv (X.inSuite a) pins σ8 H8 s8->(∀s9,Inv X pins (List.replicate len none) H8 s9->SP X pins D f s9)->
   wpAny (model X.prog X.w) X.A (do bindName X.env n .none;unbindBehindTheSuite X.env n hpos) (fun _ s9=>SP X pins D f s9) X.xe s8:=fun{σ8 H8} I8 k=>by
  obtain⟨m,hns,_⟩:=I8.loc;refine wpAny_nameGoes hloc hns (by rw [I.ok.kind];rfl) fun h9 m9 hn9 hs9=> ?_;have J:=(Inv.unSuite I.ok.hd I8).goes (t':=s8.toks+1) hn9 hs9;have e8:(dK_ σ8)=List.replicate len none:=by rw [g2_,I8.len];exact BW (fun k=>List.replicate k none) hl
  rw [e8] at J;exact k _ J
 cases f with
 |next=>obtain⟨σ8,H8,I8,q⟩:=q;exact go I8 fun s9 J=>⟨_,_,J,q⟩
 |brk=>obtain⟨σ8,H8,I8,q⟩:=q;exact go I8 fun s9 J=>⟨_,_,J,q⟩
 |cont=>obtain⟨σ8,H8,I8,q⟩:=q;exact go I8 fun s9 J=>⟨_,_,J,q⟩
 |ret u=>obtain⟨v,σ8,H8,I8,r,q⟩:=q;exact go I8 fun s9 J=>⟨v,_,_,J,r,q⟩
end L2
namespace L2
open PySem PySem.Spec PyProof.Rows
section
variable {X:Cx}{tg:Expr}
end
end L2
namespace L2
open PySem PySem.Spec PyProof.Rows
def ix_ (H:Hp) (v:V):Prop:=(∃i,v= .int i)\/(∃b,v= .bl b)\/v= .non\/(∃x,v= .str x)\/(∃a xs,v= .ref a/\H a=some (.lst xs))\/(∃a xs,v= .ref a/\H a=some (.tup xs))
def isI (v:V):Bool:=match v with
 | .int _=>true
 |_=>false
def Within (lo hi:Int) (v:V):Prop:=∃i,v= .int i/\lo<=i/\i<=hi
theorem jB_ {lo hi:Int}{v:V} (h:Within lo hi v):isI v=true:=by obtain⟨i,rfl,_⟩:=h;rfl
theorem hg_ {K:W.Frag}:W.kitOne K (.type "NoneType") (.type "int")=some false:=fz_ (by ac_nf) (by ac_nf) (by ac_nf)
theorem id_ {K:W.Frag}:W.kitOne K (.type "str") (.type "int")=some false:=fz_ (by ac_nf) (by ac_nf) (by ac_nf)
theorem hh_ {K:W.Frag}:W.kitOne K (.type "list") (.type "int")=some false:=fz_ (by ac_nf) (by ac_nf) (by ac_nf)
theorem go_ {K:W.Frag}:W.kitOne K (.type "tuple") (.type "int")=some false:=fz_ (by ac_nf) (by ac_nf) (by ac_nf)
def mm_:Sp:=fun vs H Q _=>∃v,vs=[v]/\ix_ H v/\Q (.bl (isI v)) H
end L2
namespace L2
open PySem PySem.Spec PyProof.Rows
section
variable {X:Cx}{pins:List (Addr×Obj)}{σ:St}{H:Hp}{s:Shared}{h':Heap}{ch:List Addr}{t':Nat}
theorem iy_.chs (hf:∀b∈ch,iy_ X pins H b):∀b∈ch,(b∈X.ex\/X.s₀.heap.objs.size<=b)/\b≠X.env.locals/\(∀x c,X.env.cells.lookup x=some c->c≠b)/\∀p∈X.pn++pins,p.1≠b:=fun b hb=>by
 obtain⟨_,a2,_,a4,a5,a6⟩:=hf b hb;exact⟨a4,a2,a5,a6⟩
theorem Inv.turnAll (I:Inv X pins σ H s) (hf:∀b∈ch,iy_ X pins H b) (k:∀b o,b∉ch->s.heap.get? b=some o->h'.get? b=some o):Inv X pins σ H {s with heap:=h',toks:=t'}:=by
 have nin:∀{b u},H b=some u->b∉ch:=fun e z=>by rw [(hf _ z).1] at e;cases e
 refine I.step (g':=s.gens) (d':=s.drawn) (ch:=ch) (iy_.chs hf) (fun b o _ _ c e _=>k b o c e) (fun b o _ _ c e _=>⟨o.slots,k b o c e⟩) (fun _ _ _ _ n=>n) (fun b o c e=>⟨o,k b o c e⟩) (fun _ _ e=>e) (fun _ _ _ e=>e) (fun b ps e=>⟨#[],by rw [e];simp⟩) (fun m hm=> ?_) (fun b u e=> ?_) I.bare
 .obtain⟨o,es,ep,ho,r⟩:=hm;exact⟨o,es,ep,k _ o (fun z=>(hf _ z).2.1 rfl) ho,r⟩
 .refine(I.hok b u e).stay (fun c v hc q=>k c v ?_ q) (fun _ q=>q) fun _ _ q=>q;rcases hc with z|z
  .rw [z];exact nin e
  .exact nin z
theorem Inv.turnNew {o:HO} (I:Inv X pins σ H s) (hf:∀b∈ch,iy_ X pins H b) (k:∀b ob,b∉ch->s.heap.get? b=some ob->h'.get? b=some ob) (new:aQ_ X.prog X.w (upd H s.heap.objs.size o) h' s.heap.objs.size o):
  Inv X pins σ (upd H s.heap.objs.size o) {s with heap:=h',toks:=t'}:=by
 have nf:H s.heap.objs.size=none:=I.hok.fresh (A5 _);have nin:∀{b u},H b=some u->b∉ch:=fun e z=>by rw [(hf _ z).1] at e;cases e
 refine I.step (g':=s.gens) (d':=s.drawn) (ch:=ch) (iy_.chs hf) (fun b o _ _ c e _=>k b o c e) (fun b o _ _ c e _=>⟨o.slots,k b o c e⟩) (fun b ob c e n=> ?_) (fun b o c e=>⟨o,k b o c e⟩) (fun b ys e=> ?_) (fun b o u e=> ?_) (fun b ps e=>⟨#[], ?_⟩) (fun m hm=> ?_) (fun b u e=> ?_) I.bare
 .rw [aj_ (AI (AF e))];exact n
 .rw [aj_ (ao_ e nf)];exact e
 .rw [aj_ (ao_ e nf)];exact e
 .rw [aj_ (ao_ e nf),e];simp
 .obtain⟨o,es,ep,ho,r⟩:=hm;exact⟨o,es,ep,k _ o (fun z=>(hf _ z).2.1 rfl) ho,r⟩
 .by_cases hb:b=s.heap.objs.size
  .subst hb;rw [ae_] at e;cases e;exact new
  .rw [aj_ hb] at e;refine(I.hok b u e).stay (fun c v hc q=>k c v ?_ q) (fun c q=> ?_) fun c ys q=> ?_
   .rcases hc with z|z
    .rw [z];exact nin e
    .exact nin z
   .rw [aj_ (ao_ q nf)];exact q
   .rw [aj_ (ao_ q nf)];exact q
end
def Itz (K : W.Frag) (a b : Addr) : It :=
  ⟨fun i H => ∃ xs x ys y, SqL K H a xs /\ SqL K H b ys /\ xs[i]? = some x /\ ys[i]? = some y,
   fun i H v H' => ∃ x y p, (∀ xs, SqL K H a xs -> xs[i]? = some x) /\ (∀ ys, SqL K H b ys -> ys[i]? = some y) /\ v = .ref p /\ H p = none /\ H' = upd H p (.tup [x, y]),
   fun i H => ∃ xs ys, SqL K H a xs /\ SqL K H b ys /\ (xs.length <= i \/ ys.length <= i)⟩
theorem mg_ {P:Program}{w:World}{K:W.Frag}{elts:List Expr}{k:Nat}{pos:Pos}{z TI TO i1 i2 a b:Addr} (D:ZipApart z TI TO i1 i2 a b):
  Turn P w K (.Tuple elts k pos) (Itz K a b) [z,TI,TO,i1,i2] z (fun i h=>IsZip h z TI TO .none/\IsPair h TI (.ref i1) (.ref i2)/\(∃x y,IsPair h TO x y)/\h.IsListIter i1 a i/\h.IsListIter i2 b i) where
 mem:=by simp
 obj:=fun i h st c hc=>by
  obtain⟨h1,h2,⟨x,y,h3⟩,⟨o4,h4,_,d4⟩,⟨o5,h5,_,d5⟩⟩:=st;simp only [AN,BC,CC] at hc;rcases hc with rfl|rfl|rfl|rfl|rfl
  .exact⟨_,h1,fun v q=>by cases q⟩
  .exact⟨_,h2,fun v q=>by cases q⟩
  .exact⟨_,h3,fun v q=>by cases q⟩
  .exact⟨_,h4,fun v q=>by rw [d4] at q;cases q⟩
  .exact⟨_,h5,fun v q=>by rw [d5] at q;cases q⟩
 keep:=fun i h h' st kk=>⟨kk z (by simp) _ st.1,kk TI (by simp) _ st.2.1,st.2.2.1.imp fun x q=>q.imp fun y q=>kk TO (by simp) _ q,st.2.2.2.1.at fun o q=>kk i1 (by simp) o q,st.2.2.2.2.at fun o q=>kk i2 (by simp) o q⟩
 item:=by
  intro X hP hw hK hc i pins s σ H E I hf st hg;subst hP hw hK;obtain⟨xs,x,ys,y,hqa,hqb,hx,hy⟩:=hg;obtain⟨as,ra,pa,za⟩:=I.list hqa;obtain⟨bs,rb,pb,zb⟩:=I.list hqb;obtain⟨u,hu,ru⟩:=ra.get hx;obtain⟨v,hv,rv⟩:=rb.get hy;obtain⟨hz,hTI,⟨_,_,hTO⟩,h1,h2⟩:=st;have ltz:z<s.heap.objs.size:=AF hz;refine wpAny_pyNext_zip_item D hz hTI hTO h1 h2 pa.isList pb.isList (x:=u) (y:=v) (by simpa using hu) (by simpa using hv) fun h' hz' hTO' h1' h2' hT hsz hk=>⟨.ref s.heap.objs.size,rfl, ?_⟩;refine wpAny_letOwnedTupleGo_zip hz' fun h3 hz3 sb=> ?_;have kk:∀c o,c∉[z,TI,TO,i1,i2]->s.heap.get? c=some o->h3.get? c=some o:=fun c o n e=>by
   simp only [AN,BC,CC,not_or] at n;exact(sb.2 c n.1).trans (hk c o n.1 n.2.2.1 n.2.2.2.1 n.2.2.2.2 e)
  have hT3:h3.get? s.heap.objs.size=some {cls:= .type "tuple",data:= .seq #[u,v]}:=(sb.2 _ (C0 ltz)).trans hT;have hTI3:IsPair h3 TI (.ref i1) (.ref i2):=(sb.2 _ D.TIz).trans (hk _ _ D.TIz D.TITO D.TIi1 D.TIi2 hTI);refine⟨.ref s.heap.objs.size,upd H s.heap.objs.size (.tup [x,y]),I.turnNew (t':=s.toks) hf kk ⟨by show 2<=sizeLine;decide,[u,v], .cons ru (.cons rv .nil),⟨_,hT3,rfl,_,rfl⟩⟩,rfl,
   ⟨x,y,_,fun zs hy'=>by rw [I.list_inj hy' hqa];exact hx,fun zs hy'=>by rw [I.list_inj hy' hqb];exact hy,rfl,I.hok.fresh (A5 _),rfl⟩,
   ⟨hz3,hTI3,⟨_,_,(sb.2 _ D.TOz).trans hTO'⟩,h1'.at fun o q=>(sb.2 _ D.i1z).trans q,h2'.at fun o q=>(sb.2 _ D.i2z).trans q⟩,fun c hc=> ?_⟩
  have there:∃o,s.heap.get? c=some o:=by
   simp only [AN,BC,CC] at hc;rcases hc with rfl|rfl|rfl|rfl|rfl
   .exact⟨_,hz⟩
   .exact⟨_,hTI⟩
   .exact⟨_,hTO⟩
   .exact h1.imp fun o q=>q.1
   .exact h2.imp fun o q=>q.1
  obtain⟨o,q⟩:=there;rw [aj_ (AI (AF q))];exact(hf c hc).1
 done:=by
  intro X hP hw hK hc i pins s σ H E I hf st hg;subst hP hw hK;obtain⟨xs,ys,hqa,hqb,hx⟩:=hg;obtain⟨as,ra,pa,za⟩:=I.list hqa;obtain⟨bs,rb,pb,zb⟩:=I.list hqb;obtain⟨hz,hTI,⟨_,_,hTO⟩,h1,h2⟩:=st;have la:=ra.length;have lb:=rb.length;refine wpAny_pyNext_zip_end (I.ok.hd hc) D hz hTI hTO h1 h2 pa.isList pb.isList ?_ fun h' hk=>⟨rfl,I.turnAll (t':=s.toks) hf fun c o n e=> ?_⟩
  .rcases hx with q|q
   .exact .inl (by simp;lia)
   .exact .inr (by simp;lia)
  .simp only [AN,BC,CC,not_or] at n;exact hk c o n.1 n.2.2.1 n.2.2.2.1 n.2.2.2.2 e
 self:=fun _ _ _ _ _ st h=>wpAny_pyIter_zip st.1 h
section
variable {X:Cx}{elts:List Expr}{k:Nat}{tpos p pos:Pos}{e f:Expr}{te tf:TE}
def sU_ (K:W.Frag) (ta:TA):TI:=fun σ H R=>ta σ H fun vs H1=>∃a b,vs=[.ref a, .ref b]/\(∃xs,SqL K H1 a xs)/\(∃ys,SqL K H1 b ys)/\R (Itz K a b) H1
theorem qb_ {ta:TA} (hg:Gl X "zip") (hm:X.mg "zip"=none) (hl:PA X [e,f] ta) (he:starEach [e,f] X.env=(false,eval e X.env)::starEach [f] X.env:=by rfl) (hp:(backTo pos (starEach [f] X.env)).any (·.1)=false:=by rfl):
  PI X (.Tuple elts k tpos) (.Call (.Name "zip" p) [e,f] [] pos) (sU_ X.K ta):=by
 intro pins s σ H R I h;refine BV (cI_ I hg hm PyProof.Rows.Boot.«zip» ?_);refine BG (thn (hl _ pins s σ H _ I h) fun us s1 ⟨vs,H1,I1,r1,a,b,ev,⟨xs,hqa⟩,⟨ys,hqb⟩,q⟩=> ?_) he hp;subst ev;obtain⟨u,v,rfl,ru,rv⟩:=kd_ r1;obtain rfl:u=Value.ref a:=ru;obtain rfl:v=Value.ref b:=rv;obtain⟨as,ra,pa,za⟩:=I1.list hqa;obtain⟨bs,rb,pb,zb⟩:=I1.list hqb;have la:a<s1.heap.objs.size:=let ⟨_,q,_⟩:=pa.isList;AF q;have lb:b<s1.heap.objs.size:=let ⟨_,q,_⟩:=pb.isList;AF q;refine call_zip_2 pa.isList pb.isList fun h' hz hTI hTO h1 h2 hsz hk=> ?_;refine wpAny_pyIter_zip hz ?_;refine⟨_,[_,_,_,_,_],_,_,H1,rfl,I1.kept (t':=s1.toks) hk,mg_ (zipApart_new la lb),⟨hz,hTI,⟨_,_,hTO⟩,h1,h2⟩,fun c hc=> ?_,q⟩;have fr:∀c,s1.heap.objs.size<=c->iy_ X pins H1 c:=fun c z=>I1.fpOk z (I1.hok.fresh z);simp only [AN,BC,CC] at hc;rcases hc with rfl|rfl|rfl|rfl|rfl<;>exact fr _ (by lia)
end
theorem m8_ {K:W.Frag}{a b:Addr}{xs ys:List V}{n:Nat}{own:Nat}{js:List Nat}{g:TG}{ti:TT}{te:TE}{σ:St}{H1:Hp}{acc:Addr}{Q:VK} (hn:n=min xs.length ys.length) (Pv:Nat->Hp->Prop) (h0:Pv 0 (upd H1 acc (.lst []))) (hl:∀i H2,i<=n->Pv i H2->SqL K H2 a xs/\SqL K H2 b ys)
  (hs:∀i x y H2 p,xs[i]? =some x->ys[i]? =some y->Pv i H2->H2 p=none->g (.ref p) (lZ_ own js σ) (upd H2 p (.tup [x,y])) fun σ4 H4=>ti σ4 H4 fun b H5=>if b=true then te σ4 H5 fun y H6=>ev_ (.ref acc) [y] H6 fun _ H7=>Pv (i+1) H7 else Pv (i+1) H5) (hd:∀H2,Pv n H2->Q (.ref acc) H2)
  (mono:∀σ H (R R':St->Hp->Prop) x,(∀σ' H',R σ' H'->R' σ' H')->g x σ H R->g x σ H R') (monoT:∀σ H (R R':Bool->Hp->Prop),(∀b H',R b H'->R' b H')->ti σ H R->ti σ H R') (monoE:∀σ H (R R':VK),(∀v H',R v H'->R' v H')->te σ H R->te σ H R'):
  ng_ (Itz K a b) own js g ti te σ H1 acc Q:=by
 refine⟨fun i m H2=>m=n-i/\i<=n/\Pv i H2,⟨n,by simp,AT _,h0⟩, ?_⟩;rintro i m H2 ⟨rfl,hi,p⟩;obtain⟨qa,qb⟩:=hl i H2 hi p;by_cases hlt:i<n
 .have lx:i<xs.length:=by lia
  have ly:i<ys.length:=by lia
  refine .inr ⟨⟨xs,xs[i],ys,ys[i],qa,qb,by simp [lx],by simp [ly]⟩,fun v H3 z=> ?_⟩;obtain⟨x,y,pp,e1,e2,e3,e4,e5⟩:=z;subst e3 e5;refine mono _ _ _ _ _ (fun σ4 H4 q=>monoT _ _ _ _ (fun b H5 q=> ?_) q) (hs i x y _ pp (e1 xs qa) (e2 ys qb) p e4);cases b with
  |true=>
   refine monoE _ _ _ _ (fun v H6 q=> ?_) q;obtain⟨l,zs,y,a1,a2,a3,a4,a5⟩:=q;exact⟨l,zs,y,a1,a2,a3,a4,_,by lia,rfl,hlt,a5⟩
  |false=>exact⟨_,by lia,rfl,hlt,q⟩
 .obtain rfl:i=n:=by lia
  exact .inl ⟨⟨xs,ys,qa,qb,by lia⟩,hd H2 p⟩
theorem k1_ {K:W.Frag}:n0_ 2 (nN_ K 2 (cT_ (bS_ 0) (cT_ (bS_ 1) o2_))):=by
 intro v σ H Q ⟨a,xs,e,hq,hl,x,r,ex,y,r2,er,en,q⟩;refine⟨a,xs,e,hq,hl,x,r,ex,y,r2,er,en,q, ?_,fun i hi=> ?_⟩
 .rw [Bw,Bw]
 .rw [BS (by lia),BS (by lia)]
theorem lb_ {K:W.Frag}:∀(σ:St) (H:Hp) (R R':St->Hp->Prop) (x:V),(∀σ' H',R σ' H'->R' σ' H')->nN_ K 2 (cT_ (bS_ 0) (cT_ (bS_ 1) o2_)) x σ H R->nN_ K 2 (cT_ (bS_ 0) (cT_ (bS_ 1) o2_)) x σ H R':=
 fun σ H R R' v k ⟨a,xs,e,hq,hl,x,r,ex,y,r2,er,en,q⟩=>⟨a,xs,e,hq,hl,x,r,ex,y,r2,er,en,k _ _ q⟩
theorem kT_ {X:Cx}{es:List Expr}{k:Nat}{pos:Pos}{t:TGs}{n:Nat}{K:W.Frag} (hK:X.K=K) (hc:X.calm=true) (h:PGs X es t)
  (hn:(assignEach es X.env).length=n:=by rfl) (hst:(assignEach es X.env).findIdx? (·.1)=none:=by rfl):PG X (.Tuple es k pos) (nN_ K n t):=hK▸dV_ hc h hn hst
end L2
namespace PySem.SeqAt
open AutoSeq1 (wpAny_loadPart')
open MeetsSeq MeetsSeq2 MeetsSeq3 SeqRoads2
def LtAt (A:Around) (s:Shared) (y x:Value) (b:Bool):Prop:=
 ∀(prog:Program) (w:World) (E:Value->Shared->Prop) (Q:Value->Shared->Prop),Q (.bool b) s->wpAny (model prog w) A (richCompare .Lt y x) Q E s
def lex (e f:Nat->Bool) (m n:Nat):Nat->Nat->Bool
 |0,_=>decide (m<n)
 |k+1,i=>if e i=true then lex e f m n k (i+1) else f i
theorem lj_ (l b:Addr) (items items2:Array Value) (n n2:Nat) (dd dd2:Option Addr) (sl sl2:Array (Option Value)) (e f:Nat->Bool) (k:Nat):
  ∀i:Nat,min items.size items2.size-i=k->Meets (Builtin.«list.__eq__.loop» ⟨[.ref l, .ref b,rawInt i,rawInt 0],[]⟩)
   (fun A R s=>s.heap.get? l=some {cls:= .type "list",dict:=dd,data:= .seq items n,slots:=sl}/\s.heap.get? b=some {cls:= .type "list",dict:=dd2,data:= .seq items2 n2,slots:=sl2}/\
    (∀j (h1:j<items.size) (h2:j<items2.size),EqAt A.in1 s items[j] items2[j] (e j))/\(∀j (h1:j<items.size) (h2:j<items2.size),e j=false->LtAt A.in1 s items[j] items2[j] (f j))/\
    R (.ok (.ret (.bool (lex e f items.size items2.size k i)))) s):=by
 induction k with
 |zero=>
  intro i hk prog w A R s h;obtain⟨hp,g,d,tk,os⟩:=s;obtain⟨hl,hb,he,hf,h⟩:=h
  wp_walk using wpAny_loadPart' hl,CA hb
  rcases(by lia:items.size<=i\/(i<items.size/\items2.size<=i)) with q|⟨q1,q2⟩
  .have hi1:items[((i:Nat):Int).toNat]? =none:=by simp;lia
   rw [hi1]
   wp_walk using wpAny_loadPart' hl,CA hb
   exact h
  .have hi1:items[((i:Nat):Int).toNat]? =some items[i]:=by simp [q1]
   have hi2:items2[((i:Nat):Int).toNat]? =none:=by simp;lia
   rw [hi1,hi2]
   wp_walk using wpAny_loadPart' hl,CA hb
   exact h
 |succ k ih=>
  intro i hk prog w A R s h;obtain⟨hp,g,d,tk,os⟩:=s;obtain⟨hl,hb,he,hf,h⟩:=h
  wp_walk using wpAny_loadPart' hl,CA hb
  have hlt:i<items.size:=by lia
  have hlt2:i<items2.size:=by lia
  have hi1:items[((i:Nat):Int).toNat]? =some items[i]:=by simp [hlt]
  have hi2:items2[((i:Nat):Int).toNat]? =some items2[i]:=by simp [hlt2]
  have hc:((i:Int)+1)=((i+1:Nat):Int):=by push_cast;rfl
  unfold lex at h;rw [hi1,hi2];refine A0 (he i hlt hlt2 prog w _ _ ?_);cases hb':e i with
  |true=>
   rw [hb',A9 rfl] at h
   wp_walk
   rw [hc];exact⟨Cz plain_eq_loop _,Bo entry_eq_loop (by
    rw [Bk plain_eq_loop _];exact ih (i+1) (by lia) prog w A R _ ⟨hl,hb,he,hf,h⟩)⟩
  |false=>
   rw [hb',A7 (by simp)] at h
   wp_walk using wpAny_loadPart' hl,CA hb
   rw [hi1,hi2];refine A0 (hf i hlt hlt2 hb' prog w _ _ ?_)
   wp_walk
   exact h
theorem hb_ (l b:Addr) (items items2:Array Value) (n n2:Nat) (dd dd2:Option Addr) (sl sl2:Array (Option Value)) (e f:Nat->Bool):
  Meets (Builtin.«list.__lt__» ⟨[.ref l, .ref b],[]⟩)
   (fun A R s=>s.heap.get? l=some {cls:= .type "list",dict:=dd,data:= .seq items n,slots:=sl}/\s.heap.get? b=some {cls:= .type "list",dict:=dd2,data:= .seq items2 n2,slots:=sl2}/\
    (∀j (h1:j<items.size) (h2:j<items2.size),EqAt A.in1 s items[j] items2[j] (e j))/\(∀j (h1:j<items.size) (h2:j<items2.size),e j=false->LtAt A.in1 s items[j] items2[j] (f j))/\
    R (.ok (.ret (.bool (lex e f items.size items2.size (min items.size items2.size) 0)))) s):=by
 intro prog w A R s h;obtain⟨hp,g,d,tk,os⟩:=s;obtain⟨hl,hb,he,hf,h⟩:=h;have f3:=AutoSeq1.sub_list_list
 wp_walk using wpAny_loadPart' hl,CA hb
 exact⟨Cz plain_eq_loop _,Bo entry_eq_loop (by
  rw [Bk plain_eq_loop _];exact lj_ l b items items2 n n2 dd dd2 sl sl2 e f _ 0 rfl prog w A R _ ⟨hl,hb,he,hf,by simpa using h⟩)⟩
theorem jE_ (l b:Addr) (items items2:Array Value) (n n2:Nat) (dd dd2:Option Addr) (sl sl2:Array (Option Value)) (e f:Nat->Bool):
  Meets (Builtin.«tuple.__lt__» ⟨[.ref l, .ref b],[]⟩)
   (fun A R s=>s.heap.get? l=some {cls:= .type "tuple",dict:=dd,data:= .seq items n,slots:=sl}/\s.heap.get? b=some {cls:= .type "tuple",dict:=dd2,data:= .seq items2 n2,slots:=sl2}/\
    (∀j (h1:j<items.size) (h2:j<items2.size),EqAt A.in1 s items[j] items2[j] (e j))/\(∀j (h1:j<items.size) (h2:j<items2.size),e j=false->LtAt A.in1 s items[j] items2[j] (f j))/\
    R (.ok (.ret (.bool (lex e f items.size items2.size (min items.size items2.size) 0)))) s):=
 .of_wp fun prog w A R s h=>by
  obtain⟨hp,g,d,tk,os⟩:=s;obtain⟨hl,hb,he,hf,h⟩:=h;have f2:=AutoSeq1.sub_tuple_tuple;have hZ:(items.toList.zip items2.toList).length=min items.size items2.size:=by simp
  wp_walk using wpAny_loadPart' hl,CA hb,wpAny_forIn_list _ (fun dT_ b s'=>b.1=none/\s'=⟨hp,g,d,tk,os⟩/\∃i,dT_=(items.toList.zip items2.toList).drop i/\i<=min items.size items2.size/\
   R (.ok (.ret (.bool (lex e f items.size items2.size (min items.size items2.size-i) i)))) ⟨hp,g,d,tk,os⟩) _
  case turn=>
   rintro⟨y,x⟩ dT_ b s' ⟨hb',rfl,i,hz,hile,hR⟩;have hlt:i<(items.toList.zip items2.toList).length:=by
    rcases BP i (items.toList.zip items2.toList).length with h'|h'
    .exact h'
    .rw [List.drop_of_length_le h'] at hz;cases hz
   have hm:i<min items.size items2.size:=hZ▸hlt;have h1:i<items.size:=AY hm (Nat.min_le_left _ _);have h2:i<items2.size:=AY hm (Nat.min_le_right _ _);rw [Bb hlt] at hz;injection hz with hyx hrest;have hy:y=items[i]:=by have:=BW Prod.fst hyx;simpa using this
   have hx:x=items2[i]:=by have:=BW Prod.snd hyx;simpa using this
   subst hy hx;rw [show min items.size items2.size-i=(min items.size items2.size-(i+1))+1 by lia,lex] at hR;refine A0 (he i h1 h2 prog w _ _ ?_);cases hy:e i with
   |true=>
    rw [hy,A9 rfl] at hR
    wp_walk
    exact⟨rfl,rfl,i+1,hrest,by lia,hR⟩
   |false=>
    rw [hy,A7 (by simp)] at hR;rw [A9 (show(!false)=true from rfl)];refine A0 (DA ?_);refine A0 (hf i h1 h2 hy prog w _ _ ?_)
    wp_walk
    exact⟨_,rfl,hR⟩
  case fin=>
   rintro⟨b1,b2⟩ s' ⟨hb',rfl,i,hz,hile,hR⟩;simp only at hb';subst hb';have hi:i=min items.size items2.size:=by
    rcases BP i (items.toList.zip items2.toList).length with h'|h'
    .rw [Bb h'] at hz;cases hz
    .lia
   subst hi;rw [Nat.sub_self] at hR
   wp_walk
   exact⟨_,rfl,hR⟩
  case h=>
   exact⟨rfl,rfl,0,rfl,AT _,by simpa using h⟩
section
variable {A:Around}{s:Shared}
theorem LtAt.int_int (i:Int) (t:Tok) (j:Int) (u:Tok):LtAt A s (.int i t) (.int j u) (decide (i<j)):=fun prog w E Q h=>wpAny_lt_int h
theorem LtAt.lists {l b:Addr}{items items2:Array Value}{e f:Nat->Bool} (hl:s.heap.IsList l items) (hb:s.heap.IsList b items2) (hu:A.units<cLine)
  (he:∀j (h1:j<items.size) (h2:j<items2.size),EqAt A.in1 s items[j] items2[j] (e j)) (hf:∀j (h1:j<items.size) (h2:j<items2.size),e j=false->LtAt A.in1 s items[j] items2[j] (f j)):
  LtAt A s (.ref l) (.ref b) (lex e f items.size items2.size (min items.size items2.size) 0):=fun prog w E Q h=>by
 obtain⟨⟨cls,dd,data,sl⟩,ho,hc,n,hd⟩:=id hl;obtain⟨⟨cls2,dd2,data2,sl2⟩,ho2,hc2,n2,hd2⟩:=id hb;simp only at hc hd hc2 hd2;subst hc hd hc2 hd2;exact richCompare_meets_room (op:= .Lt) ⟨_,ho,rfl⟩ ⟨_,ho2,rfl⟩ F.slot_list_lt F.entry_list_lt (F.args_list_lt_2 _ _) (hb_ l b items items2 n n2 dd dd2 sl sl2 e f)
  ⟨ho,ho2,he,hf,show Value.bool (lex e f items.size items2.size (min items.size items2.size) 0)≠Value.notImplemented/\Q (.bool (lex e f items.size items2.size (min items.size items2.size) 0)) s from⟨(fun x=>nomatch x),h⟩⟩ hu
theorem LtAt.tuples {l b:Addr}{items items2:Array Value}{e f:Nat->Bool} (hl:s.heap.IsTuple l items) (hb:s.heap.IsTuple b items2) (hu:A.units<cLine)
  (he:∀j (h1:j<items.size) (h2:j<items2.size),EqAt A.in1 s items[j] items2[j] (e j)) (hf:∀j (h1:j<items.size) (h2:j<items2.size),e j=false->LtAt A.in1 s items[j] items2[j] (f j)):
  LtAt A s (.ref l) (.ref b) (lex e f items.size items2.size (min items.size items2.size) 0):=fun prog w E Q h=>by
 obtain⟨⟨cls,dd,data,sl⟩,ho,hc,n,hd⟩:=id hl;obtain⟨⟨cls2,dd2,data2,sl2⟩,ho2,hc2,n2,hd2⟩:=id hb;simp only at hc hd hc2 hd2;subst hc hd hc2 hd2;exact richCompare_meets_room (op:= .Lt) ⟨_,ho,rfl⟩ ⟨_,ho2,rfl⟩ F.slot_tuple_lt F.entry_tuple_lt (F.args_tuple_lt_2 _ _) (jE_ l b items items2 n n2 dd dd2 sl sl2 e f)
  ⟨ho,ho2,he,hf,show Value.bool (lex e f items.size items2.size (min items.size items2.size) 0)≠Value.notImplemented/\Q (.bool (lex e f items.size items2.size (min items.size items2.size) 0)) s from⟨(fun x=>nomatch x),h⟩⟩ hu
theorem key_lists {prog:Program}{w:World}{E:Value->Shared->Prop}{l b:Addr}{items items2:Array Value}{e f:Nat->Bool}{Q:Bool->Shared->Prop} (hl:s.heap.IsList l items) (hb:s.heap.IsList b items2) (hu:A.units<cLine)
  (he:∀j (h1:j<items.size) (h2:j<items2.size),EqAt A.in1 s items[j] items2[j] (e j)) (hf:∀j (h1:j<items.size) (h2:j<items2.size),e j=false->LtAt A.in1 s items[j] items2[j] (f j))
  (h:Q (lex e f items.size items2.size (min items.size items2.size) 0) s):wpAny (model prog w) A (PyProof.Rows.keyLt' PyProof.Rows.oneType' (.ref l) (.ref b)) Q E s:=by
 rw [PyProof.Rows.keyLt'_oneType,PyProof.Rows.oneLt'_eq];simp only [CI];refine A0 (wpAny_cRoomFor hu ?_);obtain⟨⟨cls,dd,data,sl⟩,ho,hc,n,hd⟩:=id hl;obtain⟨⟨cls2,dd2,data2,sl2⟩,ho2,hc2,n2,hd2⟩:=id hb;simp only at hc hd hc2 hd2;subst hc hd hc2 hd2;refine A0 (wpAny_callSpecialIfBound?_slot (T:="list") ⟨_,ho,rfl⟩ F.slot_list_lt (DC F.slot_list_lt ⟨_,ho,rfl⟩ F.entry_list_lt (F.args_list_lt_2 _ _) (hb_ l b items items2 n n2 dd dd2 sl sl2 e f) ⟨ho,ho2,he,hf, ?_⟩));exact BF h
end
end PySem.SeqAt
namespace L2
open PySem PySem.Spec PyProof.Rows
inductive LtR (K:W.Frag) (H:Hp):Nat->V->V->Bool->Prop where
 |int (d:Nat) (i j:Int):LtR K H d (.int i) (.int j) (decide (i<j))
 |lists {d:Nat}{a b:Addr}{xs ys:List V} (es fs:Nat->Bool) (h1:SqL K H a xs) (h2:SqL K H b ys) (he:∀(j:Nat) x y,xs[j]? =some x->ys[j]? =some y->EqR K H d x y (es j)) (hf:∀(j:Nat) x y,xs[j]? =some x->ys[j]? =some y->es j=false->LtR K H d x y (fs j)):
  LtR K H (d+1) (.ref a) (.ref b) (SeqAt.lex es fs xs.length ys.length (min xs.length ys.length) 0)
 |tuples {d:Nat}{a b:Addr}{xs ys:List V} (es fs:Nat->Bool) (h1:SqT K H a xs) (h2:SqT K H b ys) (he:∀(j:Nat) x y,xs[j]? =some x->ys[j]? =some y->EqR K H d x y (es j)) (hf:∀(j:Nat) x y,xs[j]? =some x->ys[j]? =some y->es j=false->LtR K H d x y (fs j)):
  LtR K H (d+1) (.ref a) (.ref b) (SeqAt.lex es fs xs.length ys.length (min xs.length ys.length) 0)
section
variable {X:Cx}{pins:List (Addr×Obj)}{σ:St}{H:Hp}{s:Shared}
theorem cz_ {xs:List V}{is:List Value}{j:Nat} (r:aV_ xs is) (q:j<is.toArray.size):∃x,xs[j]? =some x/\be_ x is.toArray[j]:=by
 have l:=r.length;have q':j<is.length:=by simpa using q
 have hx:xs[j]? =some xs[j]:=A1 (by lia);obtain⟨u,e,ru⟩:=r.get hx;refine⟨_,hx, ?_⟩;have g:is.toArray[j]=u:=by
  rw [A1 q'] at e;simpa using Option.some.inj e
 rw [g];exact ru
theorem LtR.at_ (I:Inv X pins σ H s) {d:Nat}{x y:V}{b:Bool} (h:LtR X.K H d x y b):∀{A:Around}{u v:Value},A.units+d<cLine->be_ x u->be_ y v->SeqAt.LtAt A s u v b:=by
 induction h with
 |int d i j=>
  intro A u v hu ru rv;obtain⟨t,rfl⟩:=ru;obtain⟨t',rfl⟩:=rv;exact SeqAt.LtAt.int_int i t j t'
 | @lists d a b xs ys es fs h1 h2 he hf ih=>
  intro A u v hu ru rv;obtain rfl:u=Value.ref a:=ru;obtain rfl:v=Value.ref b:=rv;obtain⟨is,r1,p1,z1⟩:=I.list h1;obtain⟨js,r2,p2,z2⟩:=I.list h2;have l1:xs.length=is.toArray.size:=by have:=r1.length;simpa using this
  have l2:ys.length=js.toArray.size:=by have:=r2.length;simpa using this
  rw [l1,l2];refine SeqAt.LtAt.lists p1.isList p2.isList (by lia) (fun j q1 q2=> ?_) (fun j q1 q2 z=> ?_)
  .obtain⟨x,hx,rx⟩:=cz_ r1 q1;obtain⟨y,hy,ry⟩:=cz_ r2 q2;exact((he j _ _ hx hy).at_ I (by rw [bf_];lia) rx ry).2.2
  .obtain⟨x,hx,rx⟩:=cz_ r1 q1;obtain⟨y,hy,ry⟩:=cz_ r2 q2;exact ih j _ _ hx hy z (by rw [bf_];lia) rx ry
 | @tuples d a b xs ys es fs h1 h2 he hf ih=>
  intro A u v hu ru rv;obtain rfl:u=Value.ref a:=ru;obtain rfl:v=Value.ref b:=rv;obtain⟨is,r1,p1,z1⟩:=I.tuple h1;obtain⟨js,r2,p2,z2⟩:=I.tuple h2;have l1:xs.length=is.toArray.size:=by have:=r1.length;simpa using this
  have l2:ys.length=js.toArray.size:=by have:=r2.length;simpa using this
  rw [l1,l2];refine SeqAt.LtAt.tuples (show s.heap.IsTuple a is.toArray from p1) (show s.heap.IsTuple b js.toArray from p2) (by lia) (fun j q1 q2=> ?_) (fun j q1 q2 z=> ?_)
  .obtain⟨x,hx,rx⟩:=cz_ r1 q1;obtain⟨y,hy,ry⟩:=cz_ r2 q2;exact((he j _ _ hx hy).at_ I (by rw [bf_];lia) rx ry).2.2
  .obtain⟨x,hx,rx⟩:=cz_ r1 q1;obtain⟨y,hy,ry⟩:=cz_ r2 q2;exact ih j _ _ hx hy z (by rw [bf_];lia) rx ry
theorem LtR.key (I:Inv X pins σ H s) {d:Nat}{a b:Addr}{xs ys:List V}{es fs:Nat->Bool} (h1:SqL X.K H a xs) (h2:SqL X.K H b ys) (he:∀(j:Nat) x y,xs[j]? =some x->ys[j]? =some y->EqR X.K H d x y (es j)) (hf:∀(j:Nat) x y,xs[j]? =some x->ys[j]? =some y->es j=false->LtR X.K H d x y (fs j))
  {A:Around} (hu:A.units+(d+1)<cLine) {prog:Program}{w:World}{E:Value->Shared->Prop}{Q:Bool->Shared->Prop} (q:Q (SeqAt.lex es fs xs.length ys.length (min xs.length ys.length) 0) s):
  wpAny (model prog w) A (keyLt' oneType' (.ref a) (.ref b)) Q E s:=by
 obtain⟨is,r1,p1,z1⟩:=I.list h1;obtain⟨js,r2,p2,z2⟩:=I.list h2;have l1:xs.length=is.toArray.size:=by have:=r1.length;simpa using this
 have l2:ys.length=js.toArray.size:=by have:=r2.length;simpa using this
 rw [l1,l2] at q;refine SeqAt.key_lists p1.isList p2.isList (by lia) (fun j q1 q2=> ?_) (fun j q1 q2 z=> ?_) q
 .obtain⟨x,hx,rx⟩:=cz_ r1 q1;obtain⟨y,hy,ry⟩:=cz_ r2 q2;exact((he j _ _ hx hy).at_ I (by rw [bf_];lia) rx ry).2.2
 .obtain⟨x,hx,rx⟩:=cz_ r1 q1;obtain⟨y,hy,ry⟩:=cz_ r2 q2;exact(hf j _ _ hx hy z).at_ I (by rw [bf_];lia) rx ry
end
end L2
namespace L2
open PySem PySem.Spec PyProof.Rows
def le_ (ns:List Int):Int:=ns.getD (argBest (fun i j=>decide (ns.getD i 0>ns.getD j 0)) (ns.length-1)) 0
section
variable {X:Cx}
theorem iV_ {ys:Array (Int×Tok)}{ns:List Int} (h:ys.toList.map (·.1)=ns) (i:Nat):numAt ys i=ns.getD i 0:=by
 subst h;unfold numAt;rw [List.getD,A6,Bu]
theorem hx_ (hc:X.calm=true):ca_ X (.builtin "max") (fun xs H Q=>∃(p:Addr) (ns:List Int),xs=[.ref p]/\SqL X.K H p (ns.map V.int)/\0<ns.length/\Q (.int (le_ ns)) H):=by
 intro pins s σ H xs us Q I r h;obtain⟨p,ns,rfl,hq,h0,q⟩:=h;obtain⟨u,rfl,rx⟩:=dA_ r;cases rx;obtain⟨its,r',pl,hz⟩:=I.list hq;have hi:IntsAre its ns:=fC_ r';obtain⟨ys,e⟩:=hi.allInts.items;have n1:=hi.numsOf;rw [show its=its.toArray.toList from rfl,e,nums_intItems] at n1;have hsz:ys.size=ns.length:=by rw [<-n1];simp
 have hl:=pl.isList;rw [e] at hl;refine max_intList (I.ok.hd hc) hl (by lia) fun v h' tk hv hk=> ?_;obtain⟨t,rfl⟩:=intItems_at hv;refine⟨.int (le_ ns),H,I.kept hk,⟨t, ?_⟩,q⟩;unfold le_;rw [iV_ n1,hsz];simp only [iV_ n1]
theorem lv_ {s:Shared}{h':Heap}{o:Obj} (hk:∀b x,b∉[s.heap.objs.size]->(s.heap.push o).get? b=some x->h'.get? b=some x):∀b x,s.heap.get? b=some x->h'.get? b=some x:=
 fun b x e=>hk b x (fun hm=>by rw [BB.mp hm] at e;exact Bm _ (AF e)) (AB _ e)
theorem nd_ (hc:X.calm=true):ca_ X (.builtin "all") (fun xs H Q=>∃(p:Addr) (bs:List Bool),xs=[.ref p]/\SqL X.K H p (bs.map V.bl)/\Q (.bl (bs.all id)) H):=by
 intro pins s σ H xs us Q I r h;obtain⟨p,bs,rfl,hq,q⟩:=h;obtain⟨u,rfl,rx⟩:=dA_ r;cases rx;obtain⟨its,r',pl,hz⟩:=I.list hq;have hl:=pl.isList;have hlt:p<s.heap.objs.size:=by obtain⟨_,e,_⟩:=hl;exact AF e
 have hln:its.length=bs.length:=by have:=r'.length;simpa using this.symm
 refine call_all_walk (wpAny_pyIter_list hl ?_);refine⟨s.heap.objs.size,[s.heap.objs.size,p],[s.heap.objs.size],its.toArray.size,_,_,fun i=>(bs[i]?).getD true,rfl,Walks.list (A:=X.A.in1) (I.ok.hd hc) _ p (AI hlt) its.toArray,
  ⟨⟨_,AH _ rfl,rfl,rfl⟩,hl.push _⟩,fun i v s' Q' E' hP hQ=> ?_,fun h' tk hk=> ?_⟩
 .have hv:its[i]? =some v:=by simpa using hP
  have hib:i<bs.length:=by rw [<-hln];exact(AC.mp hv).1
  obtain⟨u,hu,ru⟩:=r'.get (show(bs.map V.bl)[i]? =some (.bl bs[i]) by rw [A6,A1 hib];rfl);rw [hv] at hu;cases hu;obtain rfl:v=Value.bool bs[i]:=ru;simp only [A1 hib,Option.getD_some] at hQ;exact BF hQ
 .refine⟨.bl (bs.all id),H,I.kept (lv_ hk), ?_,q⟩;show Value.bool _=Value.bool _;rw [A8,hln,PyProof.Rows.LSm.range_all]
theorem nc_ (hc:X.calm=true):ca_ X (.builtin "any") (fun xs H Q=>∃(p:Addr) (bs:List Bool),xs=[.ref p]/\SqL X.K H p (bs.map V.bl)/\Q (.bl (bs.any id)) H):=by
 intro pins s σ H xs us Q I r h;obtain⟨p,bs,rfl,hq,q⟩:=h;obtain⟨u,rfl,rx⟩:=dA_ r;cases rx;obtain⟨its,r',pl,hz⟩:=I.list hq;have hl:=pl.isList;have hlt:p<s.heap.objs.size:=by obtain⟨_,e,_⟩:=hl;exact AF e
 have hln:its.length=bs.length:=by have:=r'.length;simpa using this.symm
 refine call_any_walk (wpAny_pyIter_list hl ?_);refine⟨s.heap.objs.size,[s.heap.objs.size,p],[s.heap.objs.size],its.toArray.size,_,_,fun i=>(bs[i]?).getD false,rfl,Walks.list (A:=X.A.in1) (I.ok.hd hc) _ p (AI hlt) its.toArray,
  ⟨⟨_,AH _ rfl,rfl,rfl⟩,hl.push _⟩,fun i v s' Q' E' hP hQ=> ?_,fun h' tk hk=> ?_⟩
 .have hv:its[i]? =some v:=by simpa using hP
  have hib:i<bs.length:=by rw [<-hln];exact(AC.mp hv).1
  obtain⟨u,hu,ru⟩:=r'.get (show(bs.map V.bl)[i]? =some (.bl bs[i]) by rw [A6,A1 hib];rfl);rw [hv] at hu;cases hu;obtain rfl:v=Value.bool bs[i]:=ru;simp only [A1 hib,Option.getD_some] at hQ;exact BF hQ
 .refine⟨.bl (bs.any id),H,I.kept (lv_ hk), ?_,q⟩;show Value.bool _=Value.bool _;rw [A8,hln,PyProof.Rows.LSm.range_any]
def ipM:TIp:=fun x y H Q=>∃i j,x= .int i/\y= .int j/\q9_ i j/\Q (.int (i*j)) H
theorem oT_:PIp X .Mult ipM:=by
 intro pins s σ H x y v u Q I r1 r2 h;obtain⟨i,j,e1,e2,c,q⟩:=h;subst e1;subst e2;obtain⟨t,rfl⟩:=r1;obtain⟨t',rfl⟩:=r2;exact imul_int ⟨.int _,H,I.tok _,⟨_,rfl⟩,q⟩ c.ok
end
end L2
namespace L2
open PySem PySem.Spec PyProof.Rows
section
variable {X:Cx}{a b:Expr}{ta:TA}{p1 p2 p3 pos:Pos}
end
end L2
namespace L2
open PySem PySem.Spec PyProof.Rows
def tI (xs:List Int):D:= .t (xs.map .i)
theorem ji_ {H:Hp}:∀{xs:List Int}{vs:List V},Iss H (xs.map .i) vs->vs=xs.map V.int
 |[],vs,h=>h
 |x::xs,vs,h=>by
  obtain⟨u,us,rfl,h1,h2⟩:=h;rw [ee_ h1,ji_ h2];rfl
theorem jl_ {H:Hp}:∀(xs:List Int),Iss H (xs.map .i) (xs.map V.int)
 |[]=>rfl
 |x::xs=>⟨_,_,rfl,pA_,jl_ xs⟩
theorem g0_ {H:Hp}{xs:List Int}{v:V} (h:Is H (tI xs) v):∃a,v= .ref a/\H a=some (.tup (xs.map V.int)):=by
 obtain⟨a,vs,rfl,ha,hi⟩:=l9_ h;rw [ji_ hi] at ha;exact⟨a,rfl,ha⟩
theorem if_ {H:Hp}{xs:List Int}{a:Addr} (h:H a=some (.tup (xs.map V.int))):Is H (tI xs) (.ref a):=nD_ h (jl_ xs)
end L2
namespace L2
open PySem PySem.Spec PyProof.Rows PySem.W
section
variable {n:Nat}
def Ord (n:Nat) (p:Array Nat):Prop:=p.Perm (List.range n).toArray
theorem Ord.size {p:Array Nat} (h:Ord n p):p.size=n:=by
 have:=(D7.mp h).length_eq;simpa using this
theorem Ord.lt {p:Array Nat} (h:Ord n p) {i:Nat} (hi:i∈p.toList):i<n:=by
 have:=(D7.mp h).mem_iff.mp hi;simpa using this
theorem Ord.bubble {p:Array Nat} (h:Ord n p) (i j:Nat):Ord n (PyProof.Rows.bubble p i j):=(bubble_perm p i j).trans h
theorem Ord.kas {p:Array Nat} (h:Ord n p) (i j:Nat):Ord n (kas_rev p i j):=(mirror_perm p i j _).trans h
theorem Ord.getD {p:Array Nat} (h:Ord n p) (hn:0<n) (i:Nat):p.getD i 0<n:=by
 by_cases hi:i<p.size
 .have e:p.getD i 0=p[i]:=by simp [Array.getD,hi]
  rw [e];exact h.lt (by simp)
 .have e:p.getD i 0=0:=by simp [Array.getD,hi]
  rw [e];exact hn
def bq_ (n:Nat) {α:Type} (R:α->Prop):KasT α->Prop
 | .ret a=>R a
 | .ask i j k=>i<n/\j<n/\∀b,bq_ n R (k b)
theorem bq_.bind {α β:Type}{R:α->Prop}{R':β->Prop}{f:α->KasT β} (hf:∀a,R a->bq_ n R' (f a)):∀{t:KasT α},bq_ n R t->bq_ n R' (t.bind f)
 | .ret a,h=>hf a h
 | .ask i j k,h=>⟨h.1,h.2.1,fun b=>bq_.bind hf (h.2.2 b)⟩
variable (hn:0<n)
include hn
theorem li_ {p:Array Nat} (h:Ord n p):∀f m,bq_ n (fun _=>True) (kas_asc p f m)
 |0,m=>trivial
 |f+1,m=>⟨h.getD hn _,h.getD hn _,fun b=>by
  cases b with
  |true=>exact trivial
  |false=>exact li_ h f (m+1)⟩
theorem gb_:∀(f:Nat) (p:Array Nat) (m q:Nat),Ord n p->bq_ n (fun r=>Ord n r.1) (kas_desc f p m q)
 |0,p,m,q,h=>h
 |f+1,p,m,q,h=>⟨h.getD hn _,h.getD hn _,fun b=>by
  cases b with
  |true=>
   show bq_ n _ (if q>0 then kas_desc f (kas_rev p (m-(q+1)) m) (m+1) 0 else kas_desc f p (m+1) 0);by_cases hq:q>0
   .rw [A9 hq];exact gb_ f _ _ _ (h.kas _ _)
   .rw [A7 hq];exact gb_ f _ _ _ h
  |false=>
   refine(show bq_ n _ (KasT.ask (p.getD (m-1) 0) (p.getD m 0) fun d=>if d=true then KasT.ret (p,m,q) else kas_desc f p (m+1) (q+1)) from⟨h.getD hn _,h.getD hn _,fun b=> ?_⟩);cases b with
   |true=>exact h
   |false=>exact gb_ f _ _ _ h⟩
theorem lg_ {p:Array Nat} (h:Ord n p) (m k:Nat):bq_ n (fun r=>Ord n r.2) (kas_tail3 m k p):=by
 unfold kas_tail3;refine bq_.bind (fun a _=> ?_) (li_ hn (h.kas 0 m) _ _);exact h.kas 0 m
theorem lh_ {p:Array Nat} (h:Ord n p) (m k:Nat):bq_ n (fun r=>Ord n r.2) (kas_descPart m k p):=by
 refine(gb_ hn _ _ _ _ h).bind fun r hr=> ?_;by_cases hq:r.2.2>0
 .rw [A9 hq];exact lg_ hn (hr.kas _ _) _ _
 .rw [A7 hq];exact lg_ hn hr _ _
theorem mL_ {p:Array Nat} (h:Ord n p) (k:Nat):bq_ n (fun r=>Ord n r.2) (kas_count k p):=by
 refine(li_ hn h _ _).bind fun m _=> ?_;by_cases h1:(m==k)=true
 .rw [A9 h1];exact h
 .rw [A7 h1];by_cases h2:m>1
  .rw [A9 h2];refine⟨h.getD hn _,h.getD hn _,fun b=> ?_⟩;cases b with
   |true=>exact h
   |false=>exact lh_ hn (h.kas _ _) _ _
  .rw [A7 h2];exact lh_ hn h _ _
theorem ga_ {p:Array Nat} (h:Ord n p) (k:Nat):∀f l r,bq_ n (fun _=>True) (kas_place p k f l r)
 |0,l,r=>trivial
 |f+1,l,r=>by
  unfold kas_place;by_cases h1:l>=r
  .rw [A9 h1];exact trivial
  .rw [A7 h1];refine⟨h.getD hn _,h.getD hn _,fun b=> ?_⟩;cases b with
   |true=>exact ga_ h k f _ _
   |false=>exact ga_ h k f _ _
theorem nA_:∀(f:Nat) (p:Array Nat) (k:Nat),Ord n p->bq_ n (Ord n) (kas_bin f p k)
 |0,p,k,h=>h
 |f+1,p,k,h=>(ga_ hn h k _ _ _).bind fun l _=>nA_ f _ _ (h.bubble _ _)
theorem oL_:bq_ n (Ord n) (kas_sort n):=by
 refine(mL_ hn (show Ord n (List.range n).toArray from Array.Perm.refl _) n).bind fun r hr=> ?_;by_cases h:r.1<n
 .rw [A9 h];exact nA_ hn _ _ _ hr
 .rw [A7 h];exact hr
end
section
variable {prog:Program}{w:World}{A:Around}{E:Value->Shared->Prop}{s:Shared}
def fK_ (vs:List Value) (i:Nat):Keyed:=(vs.getD i .none,vs.getD i .none)
abbrev aS_ (h:Heap) (a:Addr) (vs:List Value):Heap:=((h.update a (Obj.mapSeq fun _=>(#[]:Array Value))).push (seqObj "tuple" vs.toArray 0)).push (seqObj "list" #[] 0)
theorem hQ_ (vs:List Value):(List.toArray (List.range vs.length)).map (fK_ vs)=vs.toArray.zip vs.toArray:=by
 refine Array.ext (by simp) fun i h1 h2=> ?_;have hi:i<vs.length:=by simpa using h1
 simp [fK_,hi]
abbrev dg_ (h:Heap) (vs:List Value):Heap:=aS_ (((h.push (seqObj "list" #[] 0)).update h.objs.size (Obj.mapSeq (· ++vs.toArray))).push (seqObj "list" vs.toArray 0)) (h.objs.size+1) vs
theorem gI_ {h:Heap}{vs:List Value}{b:Addr}{o:Obj} (hb:h.get? b=some o):(dg_ h vs).get? b=some o:=by
 have hlt:b<h.objs.size:=AF hb;have sz:(((h.push (seqObj "list" #[] 0)).update h.objs.size (Obj.mapSeq (· ++vs.toArray))).push (seqObj "list" vs.toArray 0)).objs.size=h.objs.size+2:=by rw [Bl,Aw,Bl]
 have n0:b≠h.objs.size:=AI hlt;have n1:b≠h.objs.size+1:=AI (Ab hlt);have n2:b≠h.objs.size+2:=AI (Ab (Ab hlt));have n3:b≠h.objs.size+2+1:=AI (Ab (Ab (Ab hlt)));rw [Ax _ _ _ (by rw [Bl,Aw,sz];exact n3),Ax _ _ _ (by rw [Aw,sz];exact n2),D9 _ _ _ _ n1,
  Ax _ _ _ (by rw [Aw,Bl];exact n1),D9 _ _ _ _ n0,Ax _ _ _ n0]
 exact hb
end
section
variable {prog:Program}{w:World}{A:Around}{E:Value->Shared->Prop}{s:Shared}
theorem iD_ {a:Addr}{vs:List Value}{n:Nat}{P:PySem.Fin->Shared->Prop} (ho:s.heap.get? a=some (seqObj "list" vs.toArray n)) (h2:vs.length<2)
  (h:P (.done (.ret .none)) {s with heap:=sortedHeap s.heap a vs vs.toArray}):wpAny (model prog w) A (Builtin.«list.sort» ⟨[.ref a],[]⟩) P E s:=by
 rw [list_sort_plain];have ha:a<s.heap.objs.size:=AF ho;refine A0 (listItems_at ho rfl ?_);refine A0 (CT ho rfl ?_ (by rw [A8,B'];lia) (AT _));obtain⟨e1,ho1⟩:∃e1,(s.heap.update a (Obj.mapSeq fun _=>(#[]:Array Value))).get? a=some (seqObj "list" #[] e1):=⟨_,CO ho (fun _=> #[])⟩;refine A0 (seqEpoch_at ho1 rfl ?_);refine A0 (wpAny_newTuple ?_ (by show vs.length<=_;rw [B'];lia));refine A0 (Cy ?_ (AT _));refine An ?_;have ho6:(aS_ s.heap a vs).get? a=some (seqObj "list" #[] e1):=by
  rw [Ax _ _ _ (by rw [Bl,Aw];exact AI (Ab ha)),Ax _ _ _ (by rw [Aw];exact AI ha)];exact ho1
 show wpAny (model prog w) A _ P E {s with heap:=aS_ s.heap a vs};dsimp only;have hn2:vs.toArray.size<2:=by rw [A8];lia
 rw [A9 hn2,A9 hn2];refine A0 (A3 ?_);rw [StateT.run_pure];refine A0 (A3 ?_);dsimp only;have eo:(vs.toArray.zip vs.toArray).map (·.2)=vs.toArray:=by
  refine Array.ext (by simp) fun i h1 h2=> ?_;simp
 refine A0 (seqEpoch_at ho6 rfl ?_);rw [eo];refine A0 (CT ho6 rfl ?_ (AT _) (by rw [A8,B'];lia));simp only [CZ,AJ,As];exact A3 h
theorem jJ_ {l:Addr}{vs:List Value}{Q:Value->Shared->Prop} (hl:s.heap.IsList l vs.toArray) (h2:vs.length<2)
  (h:Q (.ref (s.heap.objs.size+1)) {s with heap:=sortedAll s.heap vs vs.toArray}):wpAny (model prog w) A (call (.builtin "sorted") [.ref l]) Q E s:=by
 refine Calls.call_function_entry kind_sorted plain_sorted entry_sorted (args_sorted1 _) ?_;unfold Builtin.«sorted»;refine A0 (m:=checkCount "sorted" 1 1 _) (A3 ?_);refine A0 (collect_list hl ?_ (by rw [B'];lia));refine A0 (Cy ?_ (by rw [B'];lia));have hsz:((s.heap.push (seqObj "list" #[] 0)).update s.heap.objs.size (Obj.mapSeq (· ++vs.toArray))).objs.size=s.heap.objs.size+1:=by
  rw [Aw,Bl]
 have hoL:(((s.heap.push (seqObj "list" #[] 0)).update s.heap.objs.size (Obj.mapSeq (· ++vs.toArray))).push (seqObj "list" vs.toArray 0)).get? (s.heap.objs.size+1)=some (seqObj "list" vs.toArray 0):=by
  rw [<-hsz];exact AH _ rfl
 show wpAny _ _ _ _ _ {s with heap:=((s.heap.push (seqObj "list" #[] 0)).update s.heap.objs.size (Obj.mapSeq (· ++vs.toArray))).push (seqObj "list" vs.toArray 0)};rw [hsz];refine A0 (An (Ar slot_list_sort ⟨_,hoL,rfl⟩ entry_list_sort (iD_ (s:={s with heap:=((s.heap.push (seqObj "list" #[] 0)).update s.heap.objs.size (Obj.mapSeq (· ++vs.toArray))).push (seqObj "list" vs.toArray 0)}) hoL h2 ⟨_,rfl, ?_⟩) (args_list_sort _)));exact A3 ⟨_,rfl,h⟩
end
section
variable {X:Cx}
theorem em_ {rs:List V}{its:List Value} (r:aV_ rs its):∀(l:List Nat),(∀i∈l,i<rs.length)->aV_ (l.map fun i=>rs.getD i .non) (l.map fun i=>its.getD i .none)
 |[],_=> .nil
 |i::l,h=>by
  have hi:i<rs.length:=h i (by simp);have e:rs[i]? =some rs[i]:=A1 hi;obtain⟨u,hu,ru⟩:=r.get e;rw [AW,AW];refine .cons ?_ (em_ r l fun j hj=>h j (by simp [hj]));rw [List.getD,List.getD,e,hu];exact ru
end
def jS_ (fin:Bool):List Int->List Int->Bool
 |x::xs,y::ys=>if x=y then jS_ fin xs ys else decide (x<y)
 |_,_=>fin
def ltI (xs ys:List Int):Bool:=jS_ (decide (xs.length<ys.length)) xs ys
section
variable {prog:Program}{w:World}{A:Around}{E:Value->Shared->Prop}{s:Shared}
theorem i5_ {fin:Bool}{Q:Bool->Shared->Prop}:∀{xs ys:List Int}{is js:List Value} (i:Nat),aV_ (xs.map V.int) is->aV_ (ys.map V.int) js->Q (jS_ fin xs ys) s->KatLex prog w A true fin Q (is.zip js) i s
 |[],ys,is,js,i,h1,h2,q=>by
  cases h1;rw [List.zip_nil_left];exact kat_nil (by cases ys<;>exact q)
 |x::xs,[],is,js,i,h1,h2,q=>by
  cases h2;rw [List.zip_nil_right];exact kat_nil q
 |x::xs,y::ys,is,js,i,h1,h2,q=>by
  cases h1 with
  |cons r1 h1=>
  cases h2 with
  |cons r2 h2=>
  obtain⟨t,rfl⟩:=r1;obtain⟨t',rfl⟩:=r2;rw [List.zip_cons_cons];refine kat_cons ?_;refine wpAny_eqBool_int ?_;unfold jS_ at q;by_cases e:x=y
  .rw [A9 e] at q;rw [show(x==y)=true by simp [e]];exact kat_yes (i5_ (i+1) h1 h2 q)
  .rw [A7 e] at q;rw [show(x==y)=false by simp [e]];refine kat_no ?_;cases hb:(true&&i==0) with
   |true=>exact oneLt_int q
   |false=>exact kat_one _ _ (SeqAt.LtAt.int_int x t y t' prog w _ _ q)
end
theorem mJ_ (xss:List (List Int)):(List.range xss.length).map (fun i=>xss.getD i [])=xss:=by
 refine List.ext_getElem (by simp) fun i h1 h2=> ?_;simp [List.getD,h2]
theorem jj_ {H:Hp}{xss:List (List Int)}{rs:List V} (h:Iss H (xss.map tI) rs):∀(l:List Nat),(∀i∈l,i<xss.length)->Iss H ((l.map fun i=>xss.getD i []).map tI) (l.map fun i=>rs.getD i .non)
 |[],_=>rfl
 |i::l,hl=>by
  have hi:i<xss.length:=hl i (by simp);have hr:i<rs.length:=by rw [h.length,A2];exact hi
  refine⟨_,_,rfl, ?_,jj_ h l fun j hj=>hl j (by simp [hj])⟩;obtain⟨d,hd,h1⟩:=h.of_get (A1 hr);rw [A6,A1 hi] at hd;cases hd;show Is H (tI (xss.getD i [])) (rs.getD i .non);rw [AD,AD,A1 hi,A1 hr];exact h1
section
variable {X:Cx}{pins:List (Addr×Obj)}{σ:St}{H:Hp}{s:Shared}
theorem je_ (I:Inv X pins σ H s):∀{xss:List (List Int)}{rs:List V}{its:List Value},Iss H (xss.map tI) rs->aV_ rs its->(∀xs∈xss,xs≠[])->∃fs:List Value,KatTups s.heap its fs/\fs.length=its.length/\∀f∈fs,∃z t,f=Value.int z t
 |[],rs,its,h,r,_=>by
  obtain rfl:rs=[]:=h;cases r;exact⟨[],KatTups.nil,rfl,fun _ h=>nomatch h⟩
 |xs::xss,rs,its,h,r,hne=>by
  obtain⟨u,us,rfl,h1,h2⟩:=h;cases r with
  |cons r1 r2=>
  rename_i v its;obtain⟨fs,k1,k2,k3⟩:=je_ I h2 r2 fun ys hy=>hne ys (by simp [hy]);obtain⟨a,rfl,ha⟩:=g0_ h1;obtain rfl:v=Value.ref a:=r1;obtain⟨is,q1,q2,q3⟩:=I.tuple (SqT.of (K:=X.K) ha);obtain⟨o,ho,hc,n,hd⟩:=(show s.heap.IsTuple a is.toArray from q2)
  match xs,hne xs (by simp) with
  |x::xs',_=>
  cases q1 with
  |cons q0 q1=>
  obtain⟨t,rfl⟩:=q0;refine⟨.int x t::fs,KatTups.cons ho hc hd (by simp) k1,by simp [k2],fun f hf=> ?_⟩;rcases AN.mp hf with rfl|hf
  .exact⟨_,_,rfl⟩
  .exact k3 f hf
theorem mO_ (I:Inv X pins σ H s) {a b:Addr}{xs ys:List Int} (h1:SqT X.K H a (xs.map V.int)) (h2:SqT X.K H b (ys.map V.int)) {A:Around}{prog:Program}{w:World}{E:Value->Shared->Prop}{Q:Bool->Shared->Prop} (q:Q (ltI xs ys) s):
  wpAny (model prog w) A (keyLt' (tuples' true) (.ref a) (.ref b)) Q E s:=by
 obtain⟨is,r1,p1,z1⟩:=I.tuple h1;obtain⟨js,r2,p2,z2⟩:=I.tuple h2;obtain⟨o1,ho1,hc1,n1,hd1⟩:=(show s.heap.IsTuple a is.toArray from p1);obtain⟨o2,ho2,hc2,n2,hd2⟩:=(show s.heap.IsTuple b js.toArray from p2);refine kat_lt ho1 hd1 ho2 hd2 ?_;have l1:is.toArray.size=xs.length:=by have:=r1.length;simp at this⊢;lia
 have l2:js.toArray.size=ys.length:=by have:=r2.length;simp at this⊢;lia
 rw [l1,l2];exact i5_ 0 r1 r2 q
end
end L2
namespace L2
open PySem PySem.Spec PyProof.Rows
def r7_ (K:W.Frag) (H:Hp) (n:Nat) (xs:List V) (x:V) (es:Nat->Bool):Prop:=n<=8/\(∀(j:Nat) z,xs[j]? =some z->(∃a,z= .ref a)/\EqR K H n z x (es j))/\∀(i j:Nat) z,xs[i]? =some z->xs[j]? =some z->es i=es j
section
variable {X:Cx}{pins:List (Addr×Obj)}{σ:St}{H:Hp}{s:Shared}
open Classical in
noncomputable def hp_ (its:List Value) (es:Nat->Bool) (u:Value):Bool:=decide (∃j:Nat,its[j]? =some u/\es j=true)
end
section
variable {X:Cx}
end
end L2
namespace L2
open PySem PySem.Spec PyProof.Rows PySem.W
def Ask (K:W.Frag) (H:Hp) (x y:V) (b:Bool):Prop:=∃(a1 a2:Addr) (xs ys:List V) (d:Nat) (es fs:Nat->Bool),x= .ref a1/\y= .ref a2/\SqL K H a1 xs/\SqL K H a2 ys/\d<=4/\
 (∀(j:Nat) x y,xs[j]? =some x->ys[j]? =some y->EqR K H d x y (es j))/\(∀(j:Nat) x y,xs[j]? =some x->ys[j]? =some y->es j=false->LtR K H d x y (fs j))/\b=SeqAt.lex es fs xs.length ys.length (min xs.length ys.length) 0
section
variable {X:Cx}
end
section
variable {K:W.Frag}{H:Hp}
end
end L2
namespace L2
open PySem PySem.Spec PyProof.Rows PyProof
section
variable {prog:Program}{w:World}{A:Around}{R:Result->Shared->Prop}{I:Addr}{fp wr:List Addr}{n:Nat}{P:Nat->Value->Prop}{St:Nat->Heap->Prop}{nm:Str}{dv:Value}
end
section
variable {prog:Program}{w:World}{A:Around}{E:Value->Shared->Prop}{s:Shared}
end
section
variable {X:Cx}{e e2:Expr}{p pos kpos:Pos}{ta tk:TA}
end
end L2
namespace L2
open PySem PySem.Spec PyProof.Rows PySem.W
def cB_ (c:Nat->Nat->Bool) {α:Type}:KasT α->α
 | .ret a=>a
 | .ask i j k=>cB_ c (k (c i j))
theorem co_ {c:Nat->Nat->Bool}{α β:Type}{f:α->KasT β}:∀(t:KasT α),cB_ c (t.bind f)=cB_ c (f (cB_ c t))
 | .ret _=>rfl
 | .ask i j k=>co_ (k (c i j))
structure Ordr (c:Nat->Nat->Bool):Prop where
 asym:∀a b,c a b=true->c b a=false
 tr:∀a b d,c b a=false->c d b=false->c d a=false
section
variable {c:Nat->Nat->Bool}
abbrev at0 (p:Array Nat) (i:Nat):Nat:=p.getD i 0
def Up (c:Nat->Nat->Bool) (p:Array Nat) (m:Nat):Prop:=∀i j,i<j->j<m->c (at0 p j) (at0 p i)=false
def Dn (c:Nat->Nat->Bool) (p:Array Nat) (m:Nat):Prop:=∀i j,i<j->j<m->c (at0 p i) (at0 p j)=false
theorem Up.more (O:Ordr c) {p:Array Nat}{m:Nat} (h:Up c p m) (hm:0<m) (e:c (at0 p m) (at0 p (m-1))=false):Up c p (m+1):=by
 intro i j hij hj;by_cases hjm:j<m
 .exact h i j hij hjm
 .obtain rfl:j=m:=by lia
  by_cases hi:i=j-1
  .subst hi;exact e
  .exact O.tr _ _ _ (h i (j-1) (by lia) (by lia)) e
theorem Dn.more (O:Ordr c) {p:Array Nat}{m:Nat} (h:Dn c p m) (hm:0<m) (e:c (at0 p (m-1)) (at0 p m)=false):Dn c p (m+1):=by
 intro i j hij hj;by_cases hjm:j<m
 .exact h i j hij hjm
 .obtain rfl:j=m:=by lia
  by_cases hi:i=j-1
  .subst hi;exact e
  .exact O.tr _ _ _ e (h i (j-1) (by lia) (by lia))
theorem gn_ (O:Ordr c) {p:Array Nat}:∀(f m:Nat),0<m->Up c p m->m<=cB_ c (kas_asc p f m)/\cB_ c (kas_asc p f m)<=m+f/\Up c p (cB_ c (kas_asc p f m))/\(cB_ c (kas_asc p f m)<m+f->c (at0 p (cB_ c (kas_asc p f m))) (at0 p (cB_ c (kas_asc p f m)-1))=true)
 |0,m,hm,h=>⟨A5 _,A5 _,h,fun z=>absurd z (Bm _)⟩
 |f+1,m,hm,h=>by
  unfold kas_asc cB_;cases e:c (p.getD m 0) (p.getD (m-1) 0) with
  |true=>
   dsimp only;rw [A9 rfl];exact⟨A5 _,by show m<=_;lia,h,fun _=>e⟩
  |false=>
   dsimp only;rw [A7 (by decide)];obtain⟨h1,h2,h3,h4⟩:=gn_ O f (m+1) (by lia) (h.more O hm e);exact⟨by lia,by lia,h3,fun z=>h4 (by lia)⟩
theorem cW_ {p:Array Nat}{i j:Nat} (hj:j<=p.size) (k:Nat):at0 (kas_rev p i j) k=if i<=k/\k<j then at0 p (i+j-1-k) else at0 p k:=by
 have h:=getElem?_mirror_all (xs:=p) (i:=i) hj k;have e:∀q:Array Nat,∀k,at0 q k=(q[k]?).getD 0:=fun q k=>by simp [at0,Array.getD];split<;>simp [*]
 rw [e,e,e];unfold kas_rev;rw [h];split<;>rfl
theorem ct_ (p:Array Nat) (i j:Nat):(kas_rev p i j).size=p.size:=mirror_size _ _ _ _
theorem Dn.rev_all {p:Array Nat}{m:Nat} (h:Dn c p m) (hm:m<=p.size):Up c (kas_rev p 0 m) m:=by
 intro i j hij hj;rw [cW_ hm,cW_ hm,A9 ⟨by lia,hj⟩,A9 ⟨by lia,by lia⟩];exact h _ _ (by lia) (by lia)
theorem Up.rev_all {p:Array Nat}{m:Nat} (h:Up c p m) (hm:m<=p.size):Dn c (kas_rev p 0 m) m:=by
 intro i j hij hj;rw [cW_ hm,cW_ hm,A9 ⟨by lia,by lia⟩,A9 ⟨by lia,hj⟩];exact h _ _ (by lia) (by lia)
theorem Dn.rev_blk {p:Array Nat}{m q:Nat} (h:Dn c p m) (hm:m<=p.size) (hq:q+1<=m) (hb:∀i j,m-(q+1)<=i->i<m->m-(q+1)<=j->j<m->c (at0 p i) (at0 p j)=false):Dn c (kas_rev p (m-(q+1)) m) m:=by
 intro i j hij hj;rw [cW_ hm,cW_ hm];by_cases h1:m-(q+1)<=i
 .rw [A9 ⟨h1,by lia⟩,A9 ⟨by lia,hj⟩];exact hb _ _ (by lia) (by lia) (by lia) (by lia)
 .rw [A7 (by lia)];by_cases h2:m-(q+1)<=j
  .rw [A9 ⟨h2,hj⟩];exact h _ _ (by lia) (by lia)
  .rw [A7 (by lia)];exact h _ _ hij hj
def Blk (c:Nat->Nat->Bool) (p:Array Nat) (m q:Nat):Prop:=q+1<=m/\∀i j,m-(q+1)<=i->i<m->m-(q+1)<=j->j<m->c (at0 p i) (at0 p j)=false
theorem dq_ (O:Ordr c):∀(f:Nat) (p:Array Nat) (m q:Nat),m+f<=p.size->0<m->Dn c p m->Blk c p m q->∀r,r=cB_ c (kas_desc f p m q)->r.1.size=p.size/\m<=r.2.1/\r.2.1<=m+f/\Dn c r.1 r.2.1/\Blk c r.1 r.2.1 r.2.2
 |0,p,m,q,_,_,hd,hb,r,e=>by
  subst e;exact⟨rfl,A5 _,A5 _,hd,hb⟩
 |f+1,p,m,q,hs,hm,hd,hb,r,e=>by
  unfold kas_desc cB_ at e;cases e1:c (p.getD m 0) (p.getD (m-1) 0) with
  |true=>
   rw [e1] at e;dsimp only at e;rw [A9 rfl] at e;have e2:=O.asym _ _ e1;by_cases hq:q>0
   .rw [A9 hq] at e;have hd2:=hd.rev_blk (by lia) hb.1 hb.2;have at_m:at0 (kas_rev p (m-(q+1)) m) m=at0 p m:=by rw [cW_ (by lia),A7 (by lia)]
    have at_m1:at0 (kas_rev p (m-(q+1)) m) (m-1)=at0 p (m-(q+1)+m-1-(m-1)):=by rw [cW_ (by lia),A9 ⟨by have:=hb.1;lia,by lia⟩]
    have e3:c (at0 (kas_rev p (m-(q+1)) m) (m-1)) (at0 (kas_rev p (m-(q+1)) m) m)=false:=by
     rw [at_m,at_m1];have b1:=hb.1;exact O.tr _ _ _ e2 (hb.2 _ (m-1) (by lia) (by lia) (by lia) (by lia))
    have hd3:=hd2.more O hm e3;have hb3:Blk c (kas_rev p (m-(q+1)) m) (m+1) 0:=⟨by lia,fun i j h1 h2 h3 h4=>by
     obtain rfl:i=m:=by lia
     obtain rfl:j=i:=by lia
     cases h:c (at0 (kas_rev p (j-(q+1)) j) j) (at0 (kas_rev p (j-(q+1)) j) j) with
     |false=>rfl
     |true=>have:=O.asym _ _ h;rw [h] at this;cases this⟩
    obtain⟨r1,r2,r3,r4,r5⟩:=dq_ O f _ (m+1) 0 (by rw [ct_];lia) (by lia) hd3 hb3 r e;exact⟨by rw [r1,ct_],by lia,by lia,r4,r5⟩
   .rw [A7 hq] at e;have hd3:=hd.more O hm e2;have hb3:Blk c p (m+1) 0:=⟨by lia,fun i j h1 h2 h3 h4=>by
     obtain rfl:i=m:=by lia
     obtain rfl:j=i:=by lia
     cases h:c (at0 p j) (at0 p j) with
     |false=>rfl
     |true=>have:=O.asym _ _ h;rw [h] at this;cases this⟩
    obtain⟨r1,r2,r3,r4,r5⟩:=dq_ O f _ (m+1) 0 (by lia) (by lia) hd3 hb3 r e;exact⟨r1,by lia,by lia,r4,r5⟩
  |false=>
   rw [e1] at e;dsimp only at e;rw [A7 (by decide)] at e;unfold cB_ at e;cases e2:c (p.getD (m-1) 0) (p.getD m 0) with
   |true=>
    rw [e2] at e;dsimp only at e;rw [A9 rfl] at e;subst e;exact⟨rfl,A5 _,by show m<=_;lia,hd,hb⟩
   |false=>
    rw [e2] at e;dsimp only at e;rw [A7 (by decide)] at e;have hd3:=hd.more O hm e2;have b1:=hb.1;have hb3:Blk c p (m+1) (q+1):=⟨by lia,fun i j h1 h2 h3 h4=>by
     by_cases hi:i=m
     .by_cases hj:j=m
      .subst hi;subst hj;cases h:c (at0 p j) (at0 p j) with
       |false=>rfl
       |true=>have:=O.asym _ _ h;rw [h] at this;cases this
      .subst hi;exact O.tr _ _ _ (hb.2 _ _ (by lia) (by lia) (by lia) (by lia)) e1
     .by_cases hj:j=m
      .subst hj;exact O.tr _ _ _ e2 (hb.2 _ _ (by lia) (by lia) (by lia) (by lia))
      .exact hb.2 _ _ (by lia) (by lia) (by lia) (by lia)⟩
    obtain⟨r1,r2,r3,r4,r5⟩:=dq_ O f _ (m+1) (q+1) (by lia) (by lia) hd3 hb3 r e;exact⟨r1,by lia,by lia,r4,r5⟩
theorem he_ (O:Ordr c) {p:Array Nat}{m n:Nat} (hn:n<=p.size) (hm:m<=n) (h0:0<m) (hd:Dn c p m):∀r,r=cB_ c (kas_tail3 m n p)->r.2.size=p.size/\0<r.1/\r.1<=n/\Up c r.2 r.1:=by
 intro r e;unfold kas_tail3 at e;rw [co_] at e;subst e;obtain⟨h1,h2,h3,_⟩:=gn_ O (n-m) m h0 (hd.rev_all (by lia));exact⟨ct_ _ _ _,by show 0<cB_ c _;lia,by show cB_ c _<=n;lia,h3⟩
theorem hf_ (O:Ordr c) {p:Array Nat}{m n:Nat} (hn:n<=p.size) (hm:m<n) (h0:0<m) (hd:Dn c p m) (e:c (at0 p m) (at0 p (m-1))=true):∀r,r=cB_ c (kas_descPart m n p)->r.2.size=p.size/\0<r.1/\r.1<=n/\Up c r.2 r.1:=by
 intro r er;unfold kas_descPart at er;rw [co_] at er;have hd1:=hd.more O h0 (O.asym _ _ e);have hb1:Blk c p (m+1) 0:=⟨by lia,fun i j h1 h2 h3 h4=>by
  obtain rfl:i=m:=by lia
  obtain rfl:j=i:=by lia
  cases h:c (at0 p j) (at0 p j) with
  |false=>rfl
  |true=>have:=O.asym _ _ h;rw [h] at this;cases this⟩
 obtain⟨r1,r2,r3,r4,r5⟩:=dq_ O (n-(m+1)) p (m+1) 0 (by lia) (by lia) hd1 hb1 _ rfl;generalize cB_ c (kas_desc (n-(m+1)) p (m+1) 0)=d at*
 split at er
 .obtain⟨t1,t2,t3,t4⟩:=he_ O (p:=kas_rev d.1 (d.2.1-(d.2.2+1)) d.2.1) (m:=d.2.1) (n:=n) (by rw [ct_];lia) (by lia) (by lia) (r4.rev_blk (by lia) r5.1 r5.2) r er;exact⟨by rw [t1,ct_,r1],t2,t3,t4⟩
 .obtain⟨t1,t2,t3,t4⟩:=he_ O (p:=d.1) (m:=d.2.1) (n:=n) (by lia) (by lia) (by lia) r4 r er;exact⟨by rw [t1,r1],t2,t3,t4⟩
theorem jT_ (O:Ordr c) {p:Array Nat}{n:Nat} (hn:n<=p.size) (h0:0<n):∀r,r=cB_ c (kas_count n p)->r.2.size=p.size/\0<r.1/\r.1<=n/\Up c r.2 r.1:=by
 intro r er;unfold kas_count at er;rw [co_] at er;obtain⟨h1,h2,h3,h4⟩:=gn_ O (p:=p) (n-1) 1 (by decide) (fun i j a b=>absurd b (by lia));generalize cB_ c (kas_asc p (n-1) 1)=m at*
 by_cases hm:m=n
 .subst hm;rw [A9 (by simp)] at er;subst er;exact⟨rfl,h0,A5 _,h3⟩
 .rw [A7 (by simp [hm])] at er;have st:=h4 (by lia);by_cases h5:m>1
  .rw [A9 h5] at er;unfold cB_ at er;cases e1:c (p.getD 0 0) (p.getD (m-1) 0) with
   |true=>
    rw [e1] at er;dsimp only at er;rw [A9 rfl] at er;subst er;exact⟨rfl,by show 0<m;lia,by show m<=n;lia,h3⟩
   |false=>
    rw [e1] at er;dsimp only at er;rw [A7 (by decide)] at er;have hd:=h3.rev_all (by lia:m<=p.size);obtain⟨t1,t2,t3,t4⟩:=hf_ O (p:=kas_rev p 0 m) (m:=m) (n:=n) (by rw [ct_];exact hn) (by lia) (by lia) hd (by
     rw [cW_ (by lia),cW_ (by lia),A7 (by lia),A9 ⟨by lia,by lia⟩,show 0+m-1-(m-1)=0 by lia];cases h:c (at0 p m) (at0 p 0) with
     |true=>rfl
     |false=>have:=O.tr _ _ _ e1 h;rw [st] at this;cases this) r er
    exact⟨by rw [t1,ct_],t2,t3,t4⟩
  .rw [A7 h5] at er;obtain rfl:m=1:=by lia
   exact hf_ O hn (by lia) (by decide) (fun i j a b=>absurd b (by lia)) st r er
theorem dN_ (O:Ordr c) {p:Array Nat}{k:Nat} (hu:Up c p k):∀(f l r:Nat),r-l<=f->l<=r->r<=k->(∀i,i<l->c (at0 p k) (at0 p i)=false)->(∀i,r<=i->i<k->c (at0 p k) (at0 p i)=true)->
  cB_ c (kas_place p k f l r)<=k/\(∀i,i<cB_ c (kas_place p k f l r)->c (at0 p k) (at0 p i)=false)/\(∀i,cB_ c (kas_place p k f l r)<=i->i<k->c (at0 p k) (at0 p i)=true)
 |0,l,r,hf,hl,hr,h1,h2=>by
  obtain rfl:l=r:=by lia
  exact⟨hr,h1,h2⟩
 |f+1,l,r,hf,hl,hr,h1,h2=>by
  unfold kas_place;by_cases h:l>=r
  .rw [A9 h];obtain rfl:l=r:=by lia
   exact⟨hr,h1,h2⟩
  .rw [A7 h];unfold cB_;cases e:c (p.getD k 0) (p.getD ((l+r)/2) 0) with
   |true=>
    dsimp only;rw [A9 rfl];refine dN_ O hu f l ((l+r)/2) (by lia) (by lia) (by lia) h1 fun i a b=> ?_;by_cases hi:i=(l+r)/2
    .subst hi;exact e
    .cases q:c (at0 p k) (at0 p i) with
     |true=>rfl
     |false=>have:=O.tr _ _ _ (hu ((l+r)/2) i (by lia) b) q;rw [e] at this;cases this
   |false=>
    dsimp only;rw [A7 (by decide)];refine dN_ O hu f ((l+r)/2+1) r (by lia) (by lia) hr (fun i a=> ?_) h2;by_cases hi:i=(l+r)/2
    .subst hi;exact e
    .exact O.tr _ _ _ (hu i ((l+r)/2) (by lia) (by lia)) e
theorem nX_ {p:Array Nat}{k d:Nat} (hk:k<p.size) (hd:d<=k) (i:Nat):at0 (bubble p k d) i=if i=k-d then at0 p k else if k-d<i/\i<=k then at0 p (i-1) else at0 p i:=by
 have h:=getElem?_bubble hk d hd i;have e:∀q:Array Nat,∀k,at0 q k=(q[k]?).getD 0:=fun q k=>by simp [at0,Array.getD];split<;>simp [*]
 rw [e,e,e,e,h];split
 .rfl
 .split<;>rfl
theorem i8_ (O:Ordr c):∀(f:Nat) (p:Array Nat) (k:Nat),0<k->k+f<=p.size->Up c p k->Up c (cB_ c (kas_bin f p k)) (k+f)
 |0,p,k,_,_,h=>h
 |f+1,p,k,h0,hs,hu=>by
  unfold kas_bin;rw [co_];obtain⟨a1,a2,a3⟩:=dN_ O hu k 0 k (by lia) (by lia) (A5 _) (fun i z=>absurd z (by lia)) (fun i z1 z2=>absurd z2 (by lia));generalize cB_ c (kas_place p k k 0 k)=l at*
  have hu2:Up c (bubble p k (k-l)) (k+1):=by
   intro i j hij hj;rw [nX_ (by lia) (by lia),nX_ (by lia) (by lia),show k-(k-l)=l by lia];by_cases j1:j=l
   .rw [A9 j1,A7 (by lia),A7 (by lia)];exact a2 i (by lia)
   .rw [A7 j1];by_cases j2:l<j/\j<=k
    .rw [A9 j2];by_cases i1:i=l
     .rw [A9 i1];exact O.asym _ _ (a3 (j-1) (by lia) (by lia))
     .rw [A7 i1];by_cases i2:l<i/\i<=k
      .rw [A9 i2];exact hu _ _ (by lia) (by lia)
      .rw [A7 i2];exact hu _ _ (by lia) (by lia)
    .rw [A7 j2,A7 (by lia),A7 (by lia)];exact hu _ _ hij (by lia)
  have:=i8_ O f (bubble p k (k-l)) (k+1) (by lia) (by rw [bubble_size];lia) hu2;rw [show k+(f+1)=k+1+f by lia];exact this
theorem lr_ (O:Ordr c) {n:Nat} (h0:0<n):Up c (cB_ c (kas_sort n)) n:=by
 unfold kas_sort;rw [co_];obtain⟨r1,r2,r3,r4⟩:=jT_ O (p:=List.toArray (List.range n)) (n:=n) (by simp) h0 _ rfl;generalize cB_ c (kas_count n (List.toArray (List.range n)))=r at*
 have sz:r.2.size=n:=by rw [r1];simp
 by_cases h:r.1<n
 .rw [A9 h];have em:max r.1 1=r.1:=by lia
  rw [em];have:=i8_ O (n-r.1) r.2 r.1 r2 (by lia) r4;rw [show r.1+(n-r.1)=n by lia] at this;exact this
 .rw [A7 h];have:r.1=n:=by lia
  rw [this] at r4;exact r4
end
end L2
namespace L2
open PySem PySem.Spec PyProof.Rows PySem.W
theorem bq_.wpc {n:Nat}{c:Nat->Nat->Bool}{α:Type}{R:α->Prop}{cmp:Nat->Nat->(Bool->Shared->Prop)->Shared->Prop}{Q:α->Shared->Prop}{s:Shared} (hc:∀i j,i<n->j<n->∀C:Bool->Shared->Prop,C (c i j) s->cmp i j C s):∀{t:KasT α},(R (cB_ c t)->Q (cB_ c t) s)->bq_ n R t->t.kasWp cmp Q s
 | .ret a,hq,h=>hq h
 | .ask i j k,hq,h=>hc i j h.1 h.2.1 _ (bq_.wpc hc (t:=k (c i j)) hq (h.2.2 (c i j)))
theorem lo_:∀{xs ys zs:List Int},xs.length=ys.length->ys.length=zs.length->jS_ false ys xs=false->jS_ false zs ys=false->jS_ false zs xs=false
 |[],[],[],_,_,_,_=>rfl
 |x::xs,y::ys,z::zs,h1,h2,a,b=>by
  unfold jS_ at a b⊢;by_cases e1:y=x
  .rw [A9 e1] at a;by_cases e2:z=y
   .rw [A9 e2] at b;rw [A9 (e2.trans e1)];exact lo_ (by simpa using h1) (by simpa using h2) a b
   .rw [A7 e2] at b;have:=of_decide_eq_false b;rw [A7 (by lia)];exact AR (by lia)
  .rw [A7 e1] at a;have a:=of_decide_eq_false a;by_cases e2:z=y
   .rw [A7 (by lia)];exact AR (by lia)
   .rw [A7 e2] at b;have:=of_decide_eq_false b;rw [A7 (by lia)];exact AR (by lia)
theorem hc_:∀{xs ys:List Int},xs.length=ys.length->jS_ false xs ys=true->jS_ false ys xs=false
 |[],[],_,h=>nomatch h
 |x::xs,y::ys,hl,h=>by
  unfold jS_ at h⊢;by_cases e:x=y
  .rw [A9 e] at h;rw [A9 e.symm];exact hc_ (by simpa using hl) h
  .rw [A7 e] at h;have:=Ae h;rw [A7 (by lia)];exact AR (by lia)
theorem i2_ {xs ys:List Int} (h:xs.length=ys.length):ltI xs ys=jS_ false xs ys:=by
 unfold ltI;rw [AR (by lia)]
def pz_ (xss:List (List Int)) (i:Nat):List Int:=xss.getD i (xss.headD [])
def py_ (xss:List (List Int)) (i j:Nat):Bool:=ltI (pz_ xss i) (pz_ xss j)
theorem lu_ {xss:List (List Int)}{i:Nat} (h:i<xss.length):pz_ xss i=xss.getD i []:=by
 unfold pz_;rw [AD,AD,A1 h];rfl
theorem k2_ {xss:List (List Int)}{i j:Nat} (hi:i<xss.length) (hj:j<xss.length):py_ xss i j=ltI (xss.getD i []) (xss.getD j []):=by
 unfold py_;rw [lu_ hi,lu_ hj]
theorem mP_ {xss:List (List Int)}{m:Nat} (h0:0<xss.length) (h:∀xs∈xss,xs.length=m) (i:Nat):(pz_ xss i).length=m:=by
 unfold pz_;rw [AD];cases e:xss[i]? with
 |some x=>exact h x (AX e)
 |none=>
  cases xss with
  |nil=>cases h0
  |cons x xs=>exact h x (by simp)
theorem oA_ {xss:List (List Int)}{m:Nat} (h0:0<xss.length) (h:∀xs∈xss,xs.length=m):Ordr (py_ xss):=by
 have k:=mP_ h0 h;refine⟨fun a b e=> ?_,fun a b d e1 e2=> ?_⟩
 .unfold py_ at e⊢;rw [i2_ (by rw [k,k])] at e⊢;exact hc_ (by rw [k,k]) e
 .unfold py_ at e1 e2⊢;rw [i2_ (by rw [k,k])] at e1 e2⊢;exact lo_ (by rw [k,k]) (by rw [k,k]) e1 e2
section
variable {prog:Program}{w:World}{A:Around}{E:Value->Shared->Prop}{s:Shared}
theorem ku_ {c:Nat->Nat->Bool}{kd:SortKind}{a:Addr}{vs:List Value}{n:Nat}{P:PySem.Fin->Shared->Prop} (ho:s.heap.get? a=some (seqObj "list" vs.toArray n)) (h2:2<=vs.length) (h64:vs.length<64)
  (hkd:∀(R:SortKind->Shared->Prop),R kd {s with heap:=aS_ s.heap a vs}->wpAny (model prog w) A (keyKind' vs.toArray) R E {s with heap:=aS_ s.heap a vs})
  (hc:∀i j,i<vs.length->j<vs.length->∀C:Bool->Shared->Prop,C (c i j) {s with heap:=aS_ s.heap a vs}->wpAny (model prog w) A (keyLt' kd (vs.getD i .none) (vs.getD j .none)) C (fun _ _=>False) {s with heap:=aS_ s.heap a vs})
  (h:∀p,Ord vs.length p->p=cB_ c (kas_sort vs.length)->P (.done (.ret .none)) {s with heap:=sortedHeap s.heap a vs (p.map fun i=>vs.getD i .none)}):wpAny (model prog w) A (Builtin.«list.sort» ⟨[.ref a],[]⟩) P E s:=by
 rw [list_sort_plain];have ha:a<s.heap.objs.size:=AF ho;refine A0 (listItems_at ho rfl ?_);refine A0 (CT ho rfl ?_ (by rw [A8,B'];lia) (AT _));obtain⟨e1,ho1⟩:∃e1,(s.heap.update a (Obj.mapSeq fun _=>(#[]:Array Value))).get? a=some (seqObj "list" #[] e1):=⟨_,CO ho (fun _=> #[])⟩;refine A0 (seqEpoch_at ho1 rfl ?_);refine A0 (wpAny_newTuple ?_ (by show vs.length<=_;rw [B'];lia));refine A0 (Cy ?_ (AT _));refine An ?_;have ho6:(aS_ s.heap a vs).get? a=some (seqObj "list" #[] e1):=by
  rw [Ax _ _ _ (by rw [Bl,Aw];exact AI (Ab ha)),Ax _ _ _ (by rw [Aw];exact AI ha)];exact ho1
 show wpAny (model prog w) A _ P E {s with heap:=aS_ s.heap a vs};dsimp only;have hn2:¬vs.toArray.size<2:=by rw [A8];lia
 rw [A7 hn2,A7 hn2];refine A0 (hkd _ ?_);have est:kas_st kd (pairsOf vs) (List.toArray (List.range vs.length))=SortSt.mk' kd (vs.toArray.zip vs.toArray) #[] 7 none:=by
  have e:=kas_range (pairsOf vs);rw [pairsOf_size] at e;show SortSt.mk' kd ((List.toArray (List.range vs.length)).map (kas_item (pairsOf vs))) #[] 7 none=SortSt.mk' kd (pairsOf vs) #[] 7 none;rw [e]
 have ask:(kas_sort vs.length).kasWp (kas_cmp prog w A kd (pairsOf vs)) (fun p s'=>s'={s with heap:=aS_ s.heap a vs}/\Ord vs.length p/\p=cB_ c (kas_sort vs.length)) {s with heap:=aS_ s.heap a vs}:=by
  refine bq_.wpc (c:=c) (fun i j hi hj C hC=> ?_) (fun hp=>⟨rfl,hp,rfl⟩) (oL_ (by lia));rw [<-kas_ask_eq];exact hc i j hi hj C hC
 have run:=kas_runs (E:=E) (Q:=fun _ st' s'=>∃p,s'={s with heap:=aS_ s.heap a vs}/\(Ord vs.length p/\p=cB_ c (kas_sort vs.length))/\arrOf st'=p.map (kas_item (pairsOf vs))/\failedOf st'=none) h2 h64 (fun p' st' s' _ a2 a3 a4=>⟨p',a4.1,a4.2,a2,a3⟩) ask;rw [est] at run;refine A0 (BH run ?_ fun _ _ e=>e);rintro⟨⟨⟩,st'⟩ s' ⟨p,rfl,⟨hp,hpc⟩,har,hf⟩;dsimp only at har hf⊢;have eo:(arrOf st').map (·.2)=p.map fun i=>vs.getD i .none:=by
  rw [har,Array.map_map];refine Array.map_congr_left fun i _=> ?_;show(kas_item (pairsOf vs) i).2=_;rw [kas_item_eq]
 rw [eo];refine A0 (seqEpoch_at ho6 rfl ?_);refine A0 (CT ho6 rfl ?_ (AT _) (by rw [Array.size_map,B',hp.size];lia));rw [hf];simp only [CZ,AJ,As];exact A3 (h p hp hpc)
end
section
variable {X:Cx}{pins:List (Addr×Obj)}{σ:St}{H:Hp}{s:Shared}
end
end L2
namespace L2
open PySem PySem.Spec PyProof.Rows
section
variable {X:Cx}{K:W.Frag}
end
end L2
namespace HT
open PySem PySem.Spec PyProof.Rows
section
variable {prog:Program}{w:World}{A:Around}{E:Value->Shared->Prop}{s:Shared}
theorem getItem_tuple_all {t sl:Addr}{items:Array Value}{vl vu:Value}{lo hi:Option Int}{Q:Value->Shared->Prop} (ht:IsTup s.heap t items) (hs:s.heap.IsSliceOf sl vl vu .none) (pl:IsPart vl lo) (pu:IsPart vu hi)
  (hw:sIx items.size 0 lo=0/\sIx items.size items.size hi=items.size) (h:Q (.ref t) s):wpAny (model prog w) A (getItem (.ref t) (.ref sl)) Q E s:=by
 obtain⟨os,hos,hcs,hds⟩:=id hs;have hTs:s.TypeIs (.ref sl) "slice":=⟨os,hos,hcs⟩;unfold getItem;try with_reducible refine An ?_
 first|refine A0 (A3 ?_)|skip
 refine A0 (wpAny_sequenceKey ht.typeIs (by decide) ?_);refine A0 (BK (name:=Str.ofString "__getitem__") ht.typeIs BI
  (Ar BI ht.typeIs entry_tuple_getitem ?_ (args_tuple_getitem _ _)))
 show wpAny _ _ (Builtin.Tuple.tupleItemsOf (.ref t)>>=_) _ _ s;refine A0 (tupleItemsOf_ ht ?_);refine A0 (D' hTs ?_);rw [A9 (by decide)];refine A0 (cx_ hs pl pu ?_);have hyes:(((sIx items.size 0 lo:Nat):Int)==0&&(1:Int)==1&&(sIx items.size items.size hi-sIx items.size 0 lo)==items.size)=true:=by
  rw [hw.1,hw.2];simp
 show wpAny _ _ (if(((sIx items.size 0 lo:Nat):Int)==0&&(1:Int)==1&&(sIx items.size items.size hi-sIx items.size 0 lo)==items.size)=true then _ else _) _ _ s;rw [A9 hyes];unfold Builtin.Tuple.tupleIsExact;refine A0 (A0 (D' ht.typeIs (A3 ?_)));rw [A9 (by decide)];refine A0 (DA ?_);exact A3 ⟨_,rfl,A3 h⟩
end
end HT
namespace L2
open PySem PySem.Spec PyProof.Rows
section
variable {X:Cx}
def sL_ (K:W.Frag):V->Option Int->Option Int->Hp->VK->Prop:=fun x lo hi H Q=>∃a xs,x= .ref a/\SqT K H a xs/\
 ((HT.sIx xs.length 0 lo=0/\HT.sIx xs.length xs.length hi=xs.length)->Q (.ref a) H)/\(¬(HT.sIx xs.length 0 lo=0/\HT.sIx xs.length xs.length hi=xs.length)->∀p,H p=none->Q (.ref p) (upd H p (.tup (hJ_ xs lo hi))))
theorem oo_:SlR X (sL_ X.K):=by
 intro pins s σ H x v vl vu lo hi sl Q I rx hs pl pu h;obtain⟨a,xs,rfl,hx,q1,q2⟩:=h;by_cases hw:HT.sIx xs.length 0 lo=0/\HT.sIx xs.length xs.length hi=xs.length
 .cases rx;obtain⟨its,r,ht,hz⟩:=I.tuple hx;have hlen:its.toArray.size=xs.length:=by rw [A8];exact r.length.symm
  refine⟨"tuple",_,BI.lookup,ht.typeIs, ?_⟩;exact HT.getItem_tuple_all ht hs pl pu (by rw [hlen];exact hw) ⟨.ref a,H,I,rfl,q1 hw⟩
 .exact p0_ pins s σ H _ v vl vu lo hi sl Q I rx hs pl pu ⟨a,xs,rfl,hx,hw,q2 hw⟩
end
end L2
namespace L2
open PySem PySem.Spec PyProof.Rows PySem.W
section
variable {c:Nat->Nat->Bool}
end
section
variable {X:Cx}{pins:List (Addr×Obj)}{σ:St}{H:Hp}{s:Shared}
def EqT (K:W.Frag) (H:Hp) (n:Nat) (x y:V) (e:Bool):Prop:=∀(X:Cx) (pins:List (Addr×Obj)) (σ:St) (s:Shared),X.K=K->Inv X pins σ H s->∀(A:Around) (u v:Value),A.units+n<cLine->be_ x u->be_ y v->SeqAt.EqAt A s u v e
theorem EqR.told {K:W.Frag}{n:Nat}{x y:V}{e:Bool} (h:EqR K H n x y e):EqT K H n x y e:=fun X pins σ s hk I A u v hu ru rv=>by
 subst hk;exact(h.at_ I (A:=A) hu ru rv).2.2
def pr_ (K:W.Frag) (H:Hp) (n:Nat) (xs:List V) (x:V) (es:Nat->Bool):Prop:=n<=8/\(∀(j:Nat) z,xs[j]? =some z->(∃a,z= .ref a)/\EqT K H n z x (es j))/\∀(i j:Nat) z,xs[i]? =some z->xs[j]? =some z->es i=es j
open Classical in
theorem ho_ {n:Nat}{xs:List V}{x:V}{es:Nat->Bool}{its:List Value} (t:pr_ X.K H n xs x es) (r:aV_ xs its) {j:Nat}{u:Value} (hu:its[j]? =some u):hp_ its es u=es j:=by
 have same:∀i:Nat,its[i]? =some u->es i=es j:=fun i hi=>by
  have li:=(AC.mp hi).1;have lj:=(AC.mp hu).1;have ln:=r.length;have xi:xs[i]? =some xs[i]:=A1 (by lia);have xj:xs[j]? =some xs[j]:=A1 (by lia);obtain⟨u1,e1,r1⟩:=r.get xi;obtain⟨u2,e2,r2⟩:=r.get xj;rw [hi] at e1;rw [hu] at e2;cases e1;cases e2;obtain⟨⟨a,ea⟩,_⟩:=t.2.1 i _ xi;obtain⟨⟨b,eb⟩,_⟩:=t.2.1 j _ xj;rw [ea] at r1 xi;rw [eb] at r2 xj;obtain rfl:u=Value.ref a:=r1;have:Value.ref a=Value.ref b:=r2;cases this;exact t.2.2 i j _ xi xj
 unfold hp_;cases h:es j with
 |true=>exact Ah ⟨j,hu,h⟩
 |false=>exact AR fun⟨i,hi,e⟩=>by rw [same i hi,h] at e;cases e
def ou_ (K:W.Frag):V->List V->Hp->VK->Prop:=fun o vs H Q=>∃(p:Addr) (xs:List V) (x:V) (n:Nat) (es:Nat->Bool),o= .ref p/\vs=[x]/\SqL K H p xs/\pr_ K H n xs x es/\Q (.int (((List.range xs.length).countP es:Nat):Int)) H
theorem la_ {k:Nat} (hr:Room k X.A):MtM X "list.count" (ou_ X.K):=by
 intro pins s σ H o vs v us Q I ro rv h;obtain⟨p,xs,x,n,es,rfl,rfl,hq,t,q⟩:=h;cases ro;obtain⟨u,rfl,ru⟩:=aV_.one rv;have hu:=hr.un;have t8:=t.1;obtain⟨its,r,pl,hz⟩:=I.list hq;have ln:=r.length;obtain⟨⟨cls,dd,data,sl⟩,ho,hc,m,hd⟩:=pl.isList;simp only at hc hd;subst hc hd;have ec:its.toArray.toList.countP (hp_ its es)=(List.range xs.length).countP es:=by
  have e1:its=(List.range its.length).map fun i=>its.getD i .none:=by
   refine List.ext_getElem (by simp) fun i h1 h2=> ?_;simp [h1]
  have e2:its.countP (hp_ its es)=((List.range its.length).map fun i=>its.getD i .none).countP (hp_ its es):=by rw [<-e1]
  show its.countP (hp_ its es)=_;rw [e2,List.countP_map,ln];refine List.countP_congr fun i hi=> ?_;have hi':i<its.length:=by simpa using hi
  have:hp_ its es (its.getD i .none)=es i:=ho_ t r (by rw [AD,A1 hi'];rfl);simp only [Function.comp_apply,this]
 refine DC F.slot_list_count ⟨_,ho,rfl⟩ F.entry_list_count (F.args_list_count_2 _ _) (SeqAt.list_countAt p its.toArray m dd sl u (hp_ its es)) ⟨ho,fun y hy=> ?_, ?_⟩
 .obtain⟨j,hj,e⟩:=Bg.mp (by simpa using hy);have ej:its[j]? =some y:=by rw [A1 hj,e]
  have xj:xs[j]? =some xs[j]:=A1 (by lia);obtain⟨u2,e2,r2⟩:=r.get xj;rw [ej] at e2;cases e2;rw [ho_ t r ej];exact(t.2.1 j _ xj).2 X pins σ s rfl I _ _ _ (by rw [bf_];lia) r2 ru
 rw [ec];exact⟨.int _,H,I.tok _,⟨_,rfl⟩,q⟩
end
end L2
namespace L2
open PySem PySem.SetTable
def b9_ (m:Nat) (p:Probe):Probe:=advance {mask:=m,place:= #[],dummies:= #[],finger:=0,led:=true,moves:=0,plain:=true} p
def pAt (m:Nat) (h:Int):Nat->Probe
 |0=>probeStart {mask:=m,place:= #[],dummies:= #[],finger:=0,led:=true,moves:=0,plain:=true} h
 |n+1=>b9_ m (pAt m h n)
def sl (m:Nat) (h:Int) (n:Nat):Nat:=(pAt m h n).j
theorem q2_ (t:SetTable) (p:Probe):advance t p=b9_ t.mask p:=rfl
theorem eB_ {m:Nat}{p:Probe} (h:p.dummy=none):(b9_ m p).dummy=none:=by
 unfold b9_ advance;split<;>exact h
theorem eC_ (m:Nat) (h:Int):∀n,(pAt m h n).dummy=none
 |0=>rfl
 |n+1=>eB_ (eC_ m h n)
def Ris (xs:Array Nat):Prop:=∀i j,i<j->j<xs.size->xs.getD i 0<xs.getD j 0
theorem jo_ {xs:Array Nat}{i:Nat} (h:i<xs.size) (a b:Nat):xs.getD i a=xs.getD i b:=by simp [Array.getD,h]
theorem gB_ {xs:Array Nat}{j:Nat} (r:Ris xs):∀(f lo hi:Nat),hi-lo<=f->lo<=hi->hi<=xs.size->(∀i,i<lo->xs.getD i 0<j)->(∀i,hi<=i->i<xs.size->j<=xs.getD i 0)->
  lo<=below.go xs j f lo hi/\below.go xs j f lo hi<=hi/\(∀i,i<below.go xs j f lo hi->xs.getD i 0<j)/\(∀i,below.go xs j f lo hi<=i->i<xs.size->j<=xs.getD i 0)
 |0,lo,hi,hf,hl,hh,h1,h2=>by
  unfold below.go;have:lo=hi:=by lia
  subst this;exact⟨A5 _,A5 _,h1,h2⟩
 |f+1,lo,hi,hf,hl,hh,h1,h2=>by
  unfold below.go;by_cases c:lo<hi
  .rw [A9 c];dsimp only;have hm:(lo+hi)/2<xs.size:=by lia
   by_cases c2:xs.getD ((lo+hi)/2) j<j
   .rw [A9 c2];rw [jo_ hm j 0] at c2;obtain⟨a,b,c,d⟩:=gB_ r f ((lo+hi)/2+1) hi (by lia) (by lia) hh (fun i hi'=>by
     by_cases e:i=(lo+hi)/2
     .rw [e];exact c2
     .exact Nat.lt_trans (r i _ (by lia) hm) c2) h2
    exact⟨by lia,b,c,d⟩
   .rw [A7 c2];rw [jo_ hm j 0] at c2;obtain⟨a,b,c,d⟩:=gB_ r f lo ((lo+hi)/2) (by lia) (by lia) (by lia) h1 (fun i h3 h4=>by
     by_cases e:i=(lo+hi)/2
     .rw [e];lia
     .have:=r ((lo+hi)/2) i (by lia) h4;lia)
    exact⟨a,by lia,c,d⟩
  .rw [A7 c];have:lo=hi:=by lia
   subst this;exact⟨A5 _,A5 _,h1,h2⟩
theorem dy_ {xs:Array Nat} (r:Ris xs) (j:Nat):below xs j<=xs.size/\(∀i,i<below xs j->xs.getD i 0<j)/\(∀i,below xs j<=i->i<xs.size->j<=xs.getD i 0):=by
 obtain⟨_,b,c,d⟩:=gB_ (j:=j) r xs.size 0 xs.size (by lia) (AT _) (A5 _) (fun i h=>absurd h (by lia)) (fun i h1 h2=>by lia);exact⟨b,c,d⟩
def In (xs:Array Nat) (j:Nat):Prop:=∃i,i<xs.size/\xs.getD i 0=j
theorem jy_ {xs:Array Nat} (r:Ris xs) {i:Nat} (hi:i<xs.size):below xs (xs.getD i 0)=i:=by
 obtain⟨a,b,c⟩:=dy_ r (xs.getD i 0);by_cases h:below xs (xs.getD i 0)<i
 .have:=c _ (A5 _) (by lia);have:=r _ _ h hi;lia
 .by_cases h2:i<below xs (xs.getD i 0)
  .have:=b i h2;lia
  .lia
theorem gJ_ {t:SetTable} (r:Ris t.place) {i:Nat} (hi:i<t.place.size):t.slot (t.place.getD i 0)= .live i:=by
 unfold slot;dsimp only;rw [jy_ r hi,A9];simp [Array.getD,hi]
theorem lH_ (j:Nat):has #[] j=false:=by unfold has;simp
theorem jK_ {t:SetTable} (r:Ris t.place) (hd:t.dummies= #[]) {j:Nat} (h:¬In t.place j):t.slot j= .empty:=by
 unfold slot;dsimp only;have e:(t.place[below t.place j]? ==some j)=false:=by
  cases q:t.place[below t.place j]? with
  |none=>rfl
  |some x=>
   obtain⟨hl,e⟩:=Bt.mp q;have:x≠j:=fun z=>h ⟨_,hl,by simp [Array.getD,hl,e,z]⟩;simpa using this
 rw [e,hd,lH_];rfl
theorem nG_ (xs:Array Nat) (j:Nat):In xs j\/¬In xs j:=Classical.em _
theorem probe_go {t : SetTable} (r : Ris t.place) (hd : t.dummies = #[]) (hashAt : Nat -> Int) (h : Int) : ∀ (f n0 : Nat), (∃ n1, n0 <= n1 /\ n1 < n0 + f /\ ¬ In t.place (sl t.mask h n1)) ->
    ∃ n, n0 <= n /\ (∀ k, n0 <= k -> k < n -> ∃ i, i < t.place.size /\ t.place.getD i 0 = sl t.mask h k /\ (hashAt i == h) = false) /\
      ((¬ In t.place (sl t.mask h n) /\ probe.go t hashAt h f (pAt t.mask h n0) = some (.empty (sl t.mask h n) none)) \/
       ∃ i, i < t.place.size /\ t.place.getD i 0 = sl t.mask h n /\ (hashAt i == h) = true /\ probe.go t hashAt h f (pAt t.mask h n0) = some (.candidate (sl t.mask h n) i (pAt t.mask h (n + 1))))
  | 0, n0, ⟨n1, h1, h2, _⟩ => absurd h2 (by lia)
  | f + 1, n0, ⟨n1, h1, h2, h3⟩ => by
    unfold probe.go;rcases nG_ t.place (sl t.mask h n0) with c | c
    . obtain ⟨i, hi, e⟩ := c
      have sl' : t.slot (pAt t.mask h n0).j = .live i := by
        show t.slot (sl t.mask h n0) = _;rw [<- e]; exact gJ_ r hi
      rw [sl'];dsimp only;cases q : (hashAt i == h) with
      | true =>
        refine ⟨n0, A5 _, fun k h1 h2 => absurd h2 (by lia), .inr ⟨i, hi, e, q, ?_⟩⟩;rw [A9 rfl];rfl
      | false =>
        have ne : n0 ≠ n1 := by rintro rfl; exact h3 ⟨i, hi, e⟩
        obtain ⟨n, a, b, c⟩ := probe_go r hd hashAt h f (n0 + 1) ⟨n1, by lia, by lia, h3⟩;refine ⟨n, by lia, fun k k1 k2 => ?_, ?_⟩
        . by_cases ek : k = n0
          . subst ek; exact ⟨i, hi, e, q⟩
          . exact b k (by lia) k2
        . rw [A7 (by simp), q2_]
          exact c
    . have sl' : t.slot (pAt t.mask h n0).j = .empty := jK_ r hd c
      rw [sl'];refine ⟨n0, A5 _, fun k h1 h2 => absurd h2 (by lia), .inl ⟨c, ?_⟩⟩;dsimp only;rw [eC_];rfl
def nC_ (m:Nat) (q:Nat×Nat):Nat×Nat:=leap m q.1 q.2
def fc_ (m:Nat) (q:Nat×Nat):Probe:={j:=q.1,more:=runEnd m q.1-q.1,i:=q.1,perturb:=q.2,dummy:=none}
def bF_ (m:Nat) (q:Nat×Nat):Nat->Nat×Nat
 |0=>q
 |n+1=>nC_ m (bF_ m q n)
theorem kG_ (m i:Nat):runEnd m i-i<=9:=by unfold runEnd;split<;>lia
def da_ (m:Nat) (p:Probe):Nat->Probe
 |0=>p
 |n+1=>b9_ m (da_ m p n)
theorem eJ_ (m:Nat) (p:Probe) (a:Nat):∀b,da_ m p (a+b)=da_ m (da_ m p a) b
 |0=>rfl
 |b+1=>by show b9_ m (da_ m p (a+b))=_;rw [eJ_ m p a b];rfl
theorem dk_ (m:Nat) (h:Int) (a:Nat):∀b,pAt m h (a+b)=da_ m (pAt m h a) b
 |0=>rfl
 |b+1=>by show b9_ m (pAt m h (a+b))=_;rw [dk_ m h a b];rfl
theorem fV_ (m:Nat):∀(k:Nat) (p:Probe),p.more=k->p.dummy=none->da_ m p (k+1)=fc_ m (nC_ m (p.i,p.perturb))
 |0,p,hm,hd=>by
  show b9_ m p=_;unfold b9_ advance;rw [A7 (by lia)];obtain⟨j,mo,i,pe,du⟩:=p;dsimp only at hm hd;subst hm hd;rfl
 |k+1,p,hm,hd=>by
  have e:da_ m p (k+1+1)=da_ m (b9_ m p) (k+1):=by rw [show k+1+1=1+(k+1) by lia,eJ_];rfl
  have en:b9_ m p={p with j:=p.j+1,more:=p.more-1}:=by
   unfold b9_ advance;rw [A9 (by lia)]
  rw [e,fV_ m k (b9_ m p) (by rw [en];show p.more-1=k;lia) (eB_ hd),en]
theorem far (m:Nat):∀(L:Nat) (p:Probe),p.more<=9->p.dummy=none->∃n,n<=10*(L+1)/\da_ m p n=fc_ m (bF_ m (p.i,p.perturb) (L+1))
 |0,p,h9,hd=>⟨p.more+1,by lia,fV_ m p.more p rfl hd⟩
 |L+1,p,h9,hd=>by
  obtain⟨n,hn,e⟩:=far m L p h9 hd;have:=kG_ m (bF_ m (p.i,p.perturb) (L+1)).1;refine⟨n+(runEnd m (bF_ m (p.i,p.perturb) (L+1)).1-(bF_ m (p.i,p.perturb) (L+1)).1+1),by lia, ?_⟩;rw [eJ_,e];exact fV_ m _ (fc_ m (bF_ m (p.i,p.perturb) (L+1))) rfl rfl
def Tm (m i:Nat):Nat:=(i*5+1)%(m+1)
def Tn (m i:Nat):Nat->Nat
 |0=>i
 |n+1=>Tm m (Tn m i n)
theorem hF_ (m i a:Nat):∀b,Tn m i (a+b)=Tn m (Tn m i a) b
 |0=>rfl
 |b+1=>by show Tm m (Tn m i (a+b))=_;rw [hF_ m i a b];rfl
theorem dr_ (m:Nat) (q:Nat×Nat) (a:Nat):∀b,bF_ m q (a+b)=bF_ m (bF_ m q a) b
 |0=>rfl
 |b+1=>by show nC_ m (bF_ m q (a+b))=_;rw [dr_ m q a b];rfl
theorem dP_ (m:Nat) (q:Nat×Nat):∀n,(bF_ m q n).2=q.2/32^n
 |0=>by simp [bF_]
 |n+1=>by
  show(bF_ m q n).2/32=_;rw [dP_ m q n,Nat.div_div_eq_div_mul,Nat.pow_succ]
theorem dO_ (m:Nat) (i:Nat):∀n,bF_ m (i,0) n=(Tn m i n,0)
 |0=>rfl
 |n+1=>by
  show nC_ m (bF_ m (i,0) n)=_;rw [dO_ m i n];unfold nC_ leap;simp [Tn,Tm]
def Msk (m:Nat):Prop:=m=7\/m=31\/m=127
def orb (m:Nat):Nat->Nat->List Nat
 |0,_=>[]
 |n+1,i=>i::orb m n (Tm m i)
theorem nx_ (m:Nat):∀(n i e:Nat),e∈orb m n i->∃k,k<n/\Tn m i k=e
 |0,_,_,h=>by simp [orb] at h
 |n+1,i,e,h=>by
  rcases AN.mp h with h|h
  .exact⟨0,by lia,h.symm⟩
  .obtain⟨k,hk,e⟩:=nx_ m n (Tm m i) e h;exact⟨k+1,by lia,by rw [show k+1=1+k by lia,hF_];exact e⟩
theorem sS_:(List.range 8).all (fun e=>(orb 7 8 0).contains e)=true:=by ac_nf
theorem rM_:(List.range 32).all (fun e=>(orb 31 32 0).contains e)=true:=by ac_nf
theorem qk_:(List.range 128).all (fun e=>(orb 127 128 0).contains e)=true:=by ac_nf
theorem sR_:Tn 7 0 8=0:=by ac_nf
theorem rK_:Tn 31 0 32=0:=by ac_nf
theorem qe_:Tn 127 0 128=0:=by ac_nf
theorem rL_ {m:Nat} (hm:Msk m):(∀e,e<=m->∃k,k<=m/\Tn m 0 k=e)/\Tn m 0 (m+1)=0:=by
 have go:∀n,(List.range (n+1)).all (fun e=>(orb n (n+1) 0).contains e)=true->∀e,e<=n->∃k,k<=n/\Tn n 0 k=e:=fun n h e he=>by
  have:=Ao.mp h e (by simp;lia);obtain⟨k,hk,e⟩:=nx_ n (n+1) 0 e (by simpa using this);exact⟨k,by lia,e⟩
 rcases hm with rfl|rfl|rfl
 .exact⟨go 7 sS_,sR_⟩
 .exact⟨go 31 rM_,rK_⟩
 .exact⟨go 127 qk_,qe_⟩
theorem nV_ {m:Nat} (hm:Msk m) {i e:Nat} (hi:i<=m) (he:e<=m):∃k,k<=m/\Tn m i k=e:=by
 obtain⟨o,p⟩:=rL_ hm;obtain⟨a,ha,rfl⟩:=o i hi;obtain⟨b,hb,rfl⟩:=o e he;by_cases c:a<=b
 .exact⟨b-a,by lia,by rw [<-hF_];congr 1;lia⟩
 .refine⟨m+1-a+b,by lia, ?_⟩;rw [<-hF_,show a+(m+1-a+b)=m+1+b by lia,hF_,p]
theorem l3_ (h:Int):bits h<2^64:=by unfold bits;lia
theorem rR_ {m:Nat} (hm:Msk m) {p:Probe} (h9:p.more<=9) (hd:p.dummy=none) (hp:p.perturb<2^64) {e:Nat} (he:e<=m):∃n,n<10*turns m/\(da_ m p n).j=e:=by
 have z:∀L,13<=L->(bF_ m (p.i,p.perturb) L).2=0:=fun L hL=>by
  rw [dP_];apply Nat.div_eq_of_lt;have h1:(32:Nat)^13<=32^L:=CD (by decide) hL;have h2:(2:Nat)^64<32^13:=by decide
  show p.perturb<_;lia
 have j13:(bF_ m (p.i,p.perturb) 13).1<=m:=by
  show(leap m _ _).1<=m;unfold leap;have:=Cj ((bF_ m (p.i,p.perturb) 12).1*5+1+(bF_ m (p.i,p.perturb) 12).2/32) (show 0<m+1 by lia);dsimp only;lia
 obtain⟨k,hk,ek⟩:=nV_ hm j13 he;obtain⟨n,hn,en⟩:=far m (12+k) p h9 hd;refine⟨n,by unfold turns;lia, ?_⟩;rw [en,show 12+k+1=13+k by lia,dr_];have e13:bF_ m (p.i,p.perturb) 13=((bF_ m (p.i,p.perturb) 13).1,0):=Prod.ext rfl (z 13 (A5 _));rw [e13,dO_];exact ek
theorem kZ_ (m:Nat) (h:Int):∀n,(pAt m h n).more<=9/\(pAt m h n).perturb<2^64
 |0=>⟨kG_ m _,l3_ h⟩
 |n+1=>by
  obtain⟨a,b⟩:=kZ_ m h n;show(b9_ m (pAt m h n)).more<=9/\(b9_ m (pAt m h n)).perturb<2^64;unfold b9_ advance;split
  .exact⟨by show(pAt m h n).more-1<=9;lia,b⟩
  .unfold leap;dsimp only;exact⟨kG_ _ _,by lia⟩
theorem sk_ {m:Nat} (hm:Msk m) (h:Int) (n0:Nat) {e:Nat} (he:e<=m):∃n1,n0<=n1/\n1<n0+10*turns m/\sl m h n1=e:=by
 obtain⟨n,hn,e⟩:=rR_ hm (kZ_ m h n0).1 (eC_ m h n0) (kZ_ m h n0).2 he;exact⟨n0+n,by lia,by lia,by unfold sl;rw [dk_];exact e⟩
theorem ft_:∀(k N:Nat) (f:Nat->Nat),(∀j,j<N->∃i,i<k/\f i=j)->N<=k
 |0,N,f,h=>by
  rcases Nat.eq_zero_or_pos N with e|e
  .lia
  .obtain⟨i,hi,_⟩:=h 0 e;lia
 |k+1,N,f,h=>by
  by_cases c:f k<N
  .have:=ft_ k (N-1) (fun i=>if f k<f i then f i-1 else f i) fun j hj=>by
    by_cases e:j<f k
    .obtain⟨i,hi,ei⟩:=h j (by lia);refine⟨i, ?_, ?_⟩
     .by_cases z:i=k
      .subst z;lia
      .lia
     .rw [A7 (by lia)];exact ei
    .obtain⟨i,hi,ei⟩:=h (j+1) (by lia);refine⟨i, ?_, ?_⟩
     .by_cases z:i=k
      .subst z;lia
      .lia
     .rw [A9 (by lia)];lia
   lia
  .have:=ft_ k N f fun j hj=>by
    obtain⟨i,hi,ei⟩:=h j hj;refine⟨i, ?_,ei⟩;by_cases z:i=k
    .subst z;lia
    .lia
   lia
def hAt (es:Array (Int×Value)) (i:Nat):Int:=(es[i]?.map (·.1)).getD 0
structure Tb (t:SetTable) (es:Array (Int×Value)):Prop where
 mask:Msk t.mask
 dum:t.dummies= #[]
 size:t.place.size=es.size
 ris:Ris t.place
 bnd:∀i,i<t.place.size->t.place.getD i 0<=t.mask
 reach:∀i,i<es.size->∃n,sl t.mask (hAt es i) n=t.place.getD i 0/\∀k,k<n->In t.place (sl t.mask (hAt es i) k)
theorem Tb.free {t:SetTable}{es:Array (Int×Value)} (b:Tb t es) (h:es.size<=t.mask):∃e,e<=t.mask/\¬In t.place e:=by
 refine Classical.byContradiction fun z=> ?_;have:=ft_ t.place.size (t.mask+1) (fun i=>t.place.getD i 0) fun j hj=>by
  rcases nG_ t.place j with c|c
  .exact c
  .exact absurd ⟨j,by lia,c⟩ z
 have:=b.size;lia
theorem Tb.probe {t : SetTable} {es : Array (Int × Value)} (b : Tb t es) (hs : es.size <= t.mask) (hashAt : Nat -> Int) (h : Int) (n0 : Nat) :
    ∃ n, n0 <= n /\ (∀ k, n0 <= k -> k < n -> ∃ i, i < t.place.size /\ t.place.getD i 0 = sl t.mask h k /\ (hashAt i == h) = false) /\
      ((¬ In t.place (sl t.mask h n) /\ t.probe hashAt h (pAt t.mask h n0) = some (.empty (sl t.mask h n) none)) \/
       ∃ i, i < t.place.size /\ t.place.getD i 0 = sl t.mask h n /\ (hashAt i == h) = true /\ t.probe hashAt h (pAt t.mask h n0) = some (.candidate (sl t.mask h n) i (pAt t.mask h (n + 1)))) := by
  obtain ⟨e, he, hn⟩ := b.free hs;obtain ⟨n1, h1, h2, h3⟩ := sk_ b.mask h n0 he;exact probe_go b.ris b.dum hashAt h _ n0 ⟨n1, h1, h2, by rw [h3]; exact hn⟩
theorem d1_ {α:Type}{xs:Array α}{p:Nat} (hp:p<=xs.size) (x:α) (i:Nat):(insertAt xs p x)[i]? =if i<p then xs[i]? else if i=p then some x else xs[i-1]? :=by
 unfold insertAt;have s1:(xs.extract 0 p).size=p:=by simp;lia
 have s2:((xs.extract 0 p).push x).size=p+1:=by simp;lia
 by_cases h1:i<p
 .rw [A9 h1,Array.getElem?_append_left (by rw [s2];lia),Array.getElem?_push,A7 (by rw [s1];lia)];simp [Array.getElem?_extract];lia
 .rw [A7 h1];by_cases h2:i=p
  .rw [A9 h2,Array.getElem?_append_left (by rw [s2];lia),Array.getElem?_push,A9 (by rw [s1];exact h2)]
  .rw [A7 h2,Array.getElem?_append_right (by rw [s2];lia),s2];simp only [Array.getElem?_extract];by_cases h3:i-(p+1)<xs.size-p
   .rw [A9 (by lia)];congr 1
    lia
   .rw [A7 (by lia)];symm;rw [Array.getElem?_eq_none_iff];lia
theorem bG_ {α:Type}{xs:Array α}{p:Nat} (hp:p<=xs.size) (x:α):(insertAt xs p x).size=xs.size+1:=by
 unfold insertAt;simp;lia
theorem gs_ (xs:Array Nat) (i:Nat):xs.getD i 0=(xs[i]?).getD 0:=by
 by_cases h:i<xs.size<;>simp [Array.getD,h]
theorem cd_ {xs:Array Nat}{p:Nat} (hp:p<=xs.size) (x i:Nat):(insertAt xs p x).getD i 0=if i<p then xs.getD i 0 else if i=p then x else xs.getD (i-1) 0:=by
 rw [gs_,d1_ hp,gs_,gs_];split
 .rfl
 .split<;>rfl
theorem qH_ {xs:Array Nat}{p:Nat} (hp:p<=xs.size) (x j:Nat):In (insertAt xs p x) j↔In xs j\/j=x:=by
 constructor
 .rintro⟨i,hi,e⟩;rw [bG_ hp] at hi;rw [cd_ hp] at e;by_cases h1:i<p
  .rw [A9 h1] at e;exact .inl ⟨i,by lia,e⟩
  .rw [A7 h1] at e;by_cases h2:i=p
   .rw [A9 h2] at e;exact .inr e.symm
   .rw [A7 h2] at e;exact .inl ⟨i-1,by lia,e⟩
 .rintro(⟨i,hi,e⟩|rfl)
  .by_cases h1:i<p
   .exact⟨i,by rw [bG_ hp];lia,by rw [cd_ hp,A9 h1];exact e⟩
   .exact⟨i+1,by rw [bG_ hp];lia,by rw [cd_ hp,A7 (by lia),A7 (by lia)];exact e⟩
  .exact⟨p,by rw [bG_ hp];lia,by rw [cd_ hp,A7 (Bm _),A9 rfl]⟩
theorem oU_ {xs:Array Nat} (r:Ris xs) {j:Nat} (h:¬In xs j):Ris (insertAt xs (below xs j) j):=by
 obtain⟨a,b,c⟩:=dy_ r j;have c':∀i,below xs j<=i->i<xs.size->j<xs.getD i 0:=fun i h1 h2=>by
  have:=c i h1 h2;have:xs.getD i 0≠j:=fun z=>h ⟨i,h2,z⟩;lia
 intro i k hik hk;rw [bG_ a] at hk;rw [cd_ a,cd_ a];by_cases h1:k<below xs j
 .rw [A9 h1,A9 (by lia)];exact r i k hik (by lia)
 .rw [A7 h1];by_cases h2:k=below xs j
  .rw [A9 h2,A9 (by lia)];exact b i (by lia)
  .rw [A7 h2];by_cases h3:i<below xs j
   .rw [A9 h3];exact Nat.lt_trans (b i h3) (c' (k-1) (by lia) (by lia))
   .rw [A7 h3];by_cases h4:i=below xs j
    .rw [A9 h4];exact c' (k-1) (by lia) (by lia)
    .rw [A7 h4];exact r (i-1) (k-1) (by lia) (by lia)
theorem nt_ (t:SetTable) (hd:t.dummies= #[]) (j:Nat):t.put j=({t with place:=insertAt t.place (below t.place j) j},below t.place j):=by
 unfold put;dsimp only;rw [hd,lH_];obtain⟨a,b,c,d,e,f,g⟩:=t;dsimp only at hd;subst hd;rfl
theorem Tb.add {t:SetTable}{es:Array (Int×Value)} (b:Tb t es) (h:Int) (x:Value) (n:Nat) (hn:¬In t.place (sl t.mask h n)) (hm:sl t.mask h n<=t.mask) (hk:∀k,k<n->In t.place (sl t.mask h k)):
  Tb (t.put (sl t.mask h n)).1 (insertAt es (t.put (sl t.mask h n)).2 (h,x)):=by
 rw [nt_ t b.dum];obtain⟨a1,a2,a3⟩:=dy_ b.ris (sl t.mask h n);have a1':below t.place (sl t.mask h n)<=es.size:=by rw [<-b.size];exact a1
 refine⟨b.mask,b.dum, ?_,oU_ b.ris hn, ?_, ?_⟩
 .rw [bG_ a1,bG_ a1',b.size]
 .intro i hi;dsimp only at hi⊢;rw [bG_ a1] at hi;rw [cd_ a1];split
  .exact b.bnd i (by lia)
  .split
   .exact hm
   .exact b.bnd (i-1) (by lia)
 .intro i hi;dsimp only at hi⊢;rw [bG_ a1'] at hi;have sub:∀j,In t.place j->In (insertAt t.place (below t.place (sl t.mask h n)) (sl t.mask h n)) j:=fun j hj=>(qH_ a1 _ j).mpr (.inl hj);have eh:hAt (insertAt es (below t.place (sl t.mask h n)) (h,x)) i=if i<below t.place (sl t.mask h n) then hAt es i else if i=below t.place (sl t.mask h n) then h else hAt es (i-1):=by
   unfold hAt;rw [d1_ a1'];split
   .rfl
   .split<;>rfl
  rw [cd_ a1,eh];by_cases h1:i<below t.place (sl t.mask h n)
  .rw [A9 h1,A9 h1];obtain⟨m,e,q⟩:=b.reach i (by lia);exact⟨m,e,fun k hk=>sub _ (q k hk)⟩
  .rw [A7 h1,A7 h1];by_cases h2:i=below t.place (sl t.mask h n)
   .rw [A9 h2,A9 h2];exact⟨n,rfl,fun k hk'=>sub _ (hk k hk')⟩
   .rw [A7 h2,A7 h2];obtain⟨m,e,q⟩:=b.reach (i-1) (by lia);exact⟨m,e,fun k hk=>sub _ (q k hk)⟩
theorem h1_ {m i:Nat} (h:i<=m):i+(runEnd m i-i)<=m:=by unfold runEnd;split<;>lia
theorem k0_ (m:Nat) (h:Int):∀n,(pAt m h n).j+(pAt m h n).more<=m
 |0=>by
  have:=Cj (bits h) (show 0<m+1 by lia);exact h1_ (m:=m) (i:=bits h%(m+1)) (by lia)
 |n+1=>by
  have a:=k0_ m h n;show(b9_ m (pAt m h n)).j+(b9_ m (pAt m h n)).more<=m;unfold b9_ advance;split
  .show(pAt m h n).j+1+((pAt m h n).more-1)<=m;lia
  .unfold leap;dsimp only;have:=Cj ((pAt m h n).i*5+1+(pAt m h n).perturb/32) (show 0<m+1 by lia);exact h1_ (by lia)
theorem p1_ (m:Nat) (h:Int) (n:Nat):sl m h n<=m:=by
 have:=k0_ m h n;unfold sl;lia
abbrev Own:=Array (Option Nat)
def Occ (o:Own) (j:Nat):Prop:=∃k,o[j]? =some (some k)
theorem iG_ (m:Nat) (q:Nat×Nat):∀k,k<=runEnd m q.1-q.1->(da_ m (fc_ m q) k).j=q.1+k/\(da_ m (fc_ m q) k).more=runEnd m q.1-q.1-k
 |0,_=>⟨rfl,rfl⟩
 |k+1,h=>by
  obtain⟨a,b⟩:=iG_ m q k (by lia);show(b9_ m (da_ m (fc_ m q) k)).j=_/\(b9_ m (da_ m (fc_ m q) k)).more=_;unfold b9_ advance;rw [A9 (by lia)];dsimp only;rw [a,b];exact⟨by lia,by lia⟩
theorem fF_ {p:Nat->Bool}:∀(n:Nat),((List.range n).find? p=none/\∀i,i<n->p i=false)\/∃k,k<n/\(List.range n).find? p=some k/\p k=true/\∀i,i<k->p i=false
 |0=> .inl ⟨rfl,fun i h=>absurd h (by lia)⟩
 |n+1=>by
  rw [Bv,List.find?_append];rcases fF_ (p:=p) n with⟨a,b⟩|⟨k,h1,h2,h3,h4⟩
  .rw [a];cases c:p n with
   |true=>exact .inr ⟨n,by lia,by simp [c],c,b⟩
   |false=>
    refine .inl ⟨by simp [c],fun i hi=> ?_⟩;by_cases e:i=n
    .rw [e];exact c
    .exact b i (by lia)
  .rw [h2];exact .inr ⟨k,by lia,rfl,h3,h4⟩
theorem lM_ {m:Nat}{o:Own} (hs:o.size=m+1) (h:Int):∀(f:Nat) (q:Nat×Nat) (n:Nat),q.1<=m->pAt m h n=fc_ m q->(∀k,k<n->Occ o (sl m h k))->(∃L,L<f/\¬Occ o (bF_ m q L).1)->
  ∃n',layClean.free m o f q.1 q.2=some (sl m h n')/\¬Occ o (sl m h n')/\∀k,k<n'->Occ o (sl m h k)
 |0,q,n,hq,hp,ho,⟨L,hL,_⟩=>absurd hL (by lia)
 |f+1,q,n,hq,hp,ho,⟨L,hL,hf⟩=>by
  unfold layClean.free;have run:∀k,k<runEnd m q.1+1-q.1->sl m h (n+k)=q.1+k:=fun k hk=>by
   unfold sl;rw [dk_,hp];exact(iG_ m q k (by lia)).1
  have rb:=h1_ hq;have rl:q.1<=runEnd m q.1:=by unfold runEnd;split<;>lia
  have no:∀j,j<=m->(((o.getD j (some 0)).isNone=false->Occ o j)/\((o.getD j (some 0)).isNone=true->¬Occ o j)):=fun j hj=>by
   have hj':j<o.size:=by lia
   have e:o[j]? =some (o.getD j (some 0)):=by simp [Array.getD,hj']
   constructor
   .intro z;cases c:o.getD j (some 0) with
    |none=>rw [c] at z;cases z
    |some k=>exact⟨k,by rw [e,c]⟩
   .rintro z ⟨k,hk⟩;rw [e] at hk;rw [Ap hk] at z;cases z
  rcases fF_ (p:=fun k=>(o.getD (q.1+k) (some 0)).isNone) (runEnd m q.1+1-q.1) with⟨a,b⟩|⟨k,h1,h2,h3,h4⟩
  .rw [a];dsimp only;have all:∀k,k<n+(runEnd m q.1-q.1+1)->Occ o (sl m h k):=fun k hk=>by
    by_cases c:k<n
    .exact ho k c
    .have e:k=n+(k-n):=by lia
     rw [e,run (k-n) (by lia)];exact(no _ (by lia)).1 (b (k-n) (by lia))
   have hj:(nC_ m q).1<=m:=by
    show(leap m _ _).1<=m;unfold leap;have:=Cj (q.1*5+1+q.2/32) (show 0<m+1 by lia);dsimp only;lia
   have hp':pAt m h (n+(runEnd m q.1-q.1+1))=fc_ m (nC_ m q):=by
    rw [dk_,hp];exact fV_ m _ (fc_ m q) rfl rfl
   have hL0:L≠0:=by
    rintro rfl;apply hf;have:=(no q.1 hq).1 (b 0 (by unfold runEnd;split<;>lia))
    exact this
   obtain⟨L',rfl⟩:∃L',L=L'+1:=⟨L-1,by lia⟩;exact lM_ hs h f (nC_ m q) _ hj hp' all ⟨L',by lia,by
    rw [show L'+1=1+L' by lia,dr_] at hf;exact hf⟩
  .rw [h2];dsimp only;refine⟨n+k,by rw [run k h1], ?_,fun k' hk'=> ?_⟩
   .rw [run k h1];exact(no _ (by lia)).2 h3
   .by_cases c:k'<n
    .exact ho k' c
    .have e:k'=n+(k'-n):=by lia
     rw [e,run (k'-n) (by lia)];exact(no _ (by lia)).1 (h4 (k'-n) (by lia))
theorem qv_ {m:Nat} (hm:Msk m) (q:Nat×Nat) (hp:q.2<2^64) {e:Nat} (he:e<=m):∃L,L<turns m/\(bF_ m q L).1=e:=by
 have z:(bF_ m q 13).2=0:=by
  rw [dP_];apply Nat.div_eq_of_lt;have h2:(2:Nat)^64<32^13:=by decide
  lia
 have j13:(bF_ m q 13).1<=m:=by
  show(leap m _ _).1<=m;unfold leap;have:=Cj ((bF_ m q 12).1*5+1+(bF_ m q 12).2/32) (show 0<m+1 by lia);dsimp only;lia
 obtain⟨k,hk,ek⟩:=nV_ hm j13 he;refine⟨13+k,by unfold turns;lia, ?_⟩;rw [dr_];have e13:bF_ m q 13=((bF_ m q 13).1,0):=Prod.ext rfl z;rw [e13,dO_];exact ek
structure Lay (m:Nat) (hs:List Int) (o:Own) (ss:Nat->Nat):Prop where
 size:o.size=m+1
 at_:∀i,i<hs.length->ss i<=m/\o[ss i]? =some (some i)
 of_:∀j k,o[j]? =some (some k)->k<hs.length/\ss k=j
 reach:∀(i:Nat) h,hs[i]? =some h->∃n,sl m h n=ss i/\∀k,k<n->Occ o (sl m h k)
theorem Lay.step {m:Nat} (hm:Msk m) {hs:List Int}{o:Own}{ss:Nat->Nat} (l:Lay m hs o ss) (h:Int) (hl:hs.length<=m):
  ∃j,layClean.free m o (turns m) (bits h%(m+1)) (bits h)=some j/\∃ss',Lay m (hs++[h]) (o.setIfInBounds j (some hs.length)) ss':=by
 obtain⟨e,he,hne⟩:∃e,e<=m/\¬Occ o e:=by
  refine Classical.byContradiction fun z=> ?_;have:=ft_ hs.length (m+1) ss fun j hj=>by
   rcases Classical.em (Occ o j) with⟨k,hk⟩|c
   .exact⟨k,(l.of_ j k hk).1,(l.of_ j k hk).2⟩
   .exact absurd ⟨j,by lia,c⟩ z
  lia
 obtain⟨L,hL,eL⟩:=qv_ hm (bits h%(m+1),bits h) (l3_ h) he;have i0:=Cj (bits h) (show 0<m+1 by lia);obtain⟨n,e1,e2,e3⟩:=lM_ l.size h (turns m) (bits h%(m+1),bits h) 0 (by lia) rfl (fun k hk=>absurd hk (by lia)) ⟨L,hL,by rw [eL];exact hne⟩;have jm:=p1_ m h n;have js:sl m h n<o.size:=by rw [l.size];lia
 refine⟨sl m h n,e1,fun i=>if i=hs.length then sl m h n else ss i, ?_⟩;have set_:∀j,(o.setIfInBounds (sl m h n) (some hs.length))[j]? =if j=sl m h n then some (some hs.length) else o[j]? :=fun j=>by
  rw [Array.getElem?_setIfInBounds];by_cases c:sl m h n=j
  .rw [A9 c,A9 c.symm];simp [<-c,js]
  .rw [A7 c,A7 fun z=>c z.symm]
 have sub:∀j,Occ o j->Occ (o.setIfInBounds (sl m h n) (some hs.length)) j:=fun j ⟨k,hk⟩=>by
  refine⟨k, ?_⟩;rw [set_,A7]
  .exact hk
  .rintro rfl;exact e2 ⟨k,hk⟩
 refine⟨by rw [Array.size_setIfInBounds];exact l.size,fun i hi=> ?_,fun j k hk=> ?_,fun i h' hh'=> ?_⟩
 .rw [AO,BM] at hi;by_cases c:i=hs.length
  .rw [A9 c,set_,A9 rfl,c];exact⟨jm,rfl⟩
  .rw [A7 c,set_];obtain⟨a,b⟩:=l.at_ i (by lia);refine⟨a, ?_⟩;rw [A7]
   .exact b
   .intro z;rw [z] at b;exact e2 ⟨i,b⟩
 .rw [set_] at hk;rw [AO,BM];by_cases c:j=sl m h n
  .rw [A9 c] at hk;cases hk;exact⟨by lia,by rw [A9 rfl];exact c.symm⟩
  .rw [A7 c] at hk;obtain⟨a,b⟩:=l.of_ j k hk;exact⟨by lia,by rw [A7 (by lia)];exact b⟩
 .by_cases c:i<hs.length
  .rw [List.getElem?_append_left c] at hh';obtain⟨n',a,b⟩:=l.reach i h' hh';rw [A7 (by lia)];exact⟨n',a,fun k hk=>sub _ (b k hk)⟩
  .have hlt:=(AC.mp hh').1;rw [AO,BM] at hlt;obtain rfl:i=hs.length:=by lia
   rw [D5 (A5 _),Nat.sub_self] at hh';cases hh';rw [A9 rfl];exact⟨n,rfl,fun k hk=>sub _ (e3 k hk)⟩
def eP_ (m:Nat) (acc:Option (Own×Nat)) (h:Int):Option (Own×Nat):=do
 let (owner,k)<-acc
 let j<-layClean.free m owner (turns m) (bits h%(m+1)) (bits h)
 pure (owner.setIfInBounds j (some k),k+1)
theorem i7_ {m:Nat} (hm:Msk m):∀(more hs:List Int) (o:Own) (ss:Nat->Nat),Lay m hs o ss->hs.length+more.length<=m+1->
  ∃o' ss',more.foldl (eP_ m) (some (o,hs.length))=some (o',(hs++more).length)/\Lay m (hs++more) o' ss'
 |[],hs,o,ss,l,_=>⟨o,ss,by simp,by simpa using l⟩
 |h::more,hs,o,ss,l,hl=>by
  rw [Ag] at hl;obtain⟨j,e,ss',l'⟩:=l.step hm h (by lia);obtain⟨o',ss2,e2,l2⟩:=i7_ hm more (hs++[h]) _ ss' l' (by rw [AO,BM];lia);rw [BX,List.singleton_append] at e2 l2;refine⟨o',ss2, ?_,l2⟩;rw [List.foldl_cons];have es:eP_ m (some (o,hs.length)) h=some (o.setIfInBounds j (some hs.length),(hs++[h]).length):=by
   unfold eP_;simp only [Option.bind_eq_bind,Option.bind_some,e];simp
  rw [es];exact e2
theorem lq_ {m:Nat} (hm:Msk m) (hs:Array Int) (hl:hs.size<=m+1):∃o ss,layClean m hs=some o/\Lay m hs.toList o ss:=by
 have l0:Lay m [] (Array.replicate (m+1) none) (fun _=>0):=⟨by simp,fun i hi=>absurd hi (by simp),fun j k hk=>(by
  rw [Array.getElem?_replicate] at hk;split at hk<;>cases hk),fun i h e=>by simp at e⟩
 obtain⟨o,ss,e,l⟩:=i7_ hm hs.toList [] _ _ l0 (by simpa using hl);refine⟨o,ss, ?_,by simpa using l⟩;unfold layClean;have:hs.foldl (init:=some (Array.replicate (m+1) none,0)) (eP_ m)=some (o,([]++hs.toList).length):=by
  rw [<-Array.foldl_toList];exact e
 have e2:(hs.foldl (init:=some (Array.replicate (m+1) none,0)) fun acc h=>do
  let (owner,k)<-acc
  let j<-layClean.free m owner (turns m) (bits h%(m+1)) (bits h)
  pure (owner.setIfInBounds j (some k),k+1))=hs.foldl (init:=some (Array.replicate (m+1) none,0)) (eP_ m):=rfl
 rw [e2,this];rfl
def bE_ (m:Nat) (o:Own):List (Nat×Nat):=(List.range (m+1)).filterMap fun j=>(o.getD j none).map (j, ·)
theorem gk_ {m:Nat}{o:Own} (hs:o.size=m+1) (j k:Nat):(j,k)∈bE_ m o↔o[j]? =some (some k):=by
 unfold bE_;rw [D3];constructor
 .rintro⟨a,ha,e⟩;obtain⟨k',e1,e2⟩:=A4.mp e;cases e2;have hj:j<o.size:=by rw [hs];simpa using ha
  have e:o[j]? =some (o.getD j none):=by simp [Array.getD,hj]
  rw [e,e1]
 .intro e;obtain⟨hj,e2⟩:=Bt.mp e;refine⟨j,by simpa [hs] using hj, ?_⟩;have:o.getD j none=some k:=by simp [Array.getD,hj,e2]
  rw [this];rfl
theorem oM_ (m:Nat) (o:Own):(bE_ m o).Pairwise fun a b=>a.1<b.1:=by
 unfold bE_;rw [List.pairwise_filterMap];refine List.Pairwise.imp ?_ (List.pairwise_lt_range (n:=m+1));intro a b hab x hx y hy;obtain⟨_,_,e1⟩:=A4.mp hx;obtain⟨_,_,e2⟩:=A4.mp hy;rw [<-e1,<-e2];exact hab
structure Laid (m:Nat) (hs:Array Int) (pl od:Array Nat):Prop where
 ps:pl.size=hs.size
 os:od.size=hs.size
 ris:Ris pl
 bnd:∀i,i<pl.size->pl.getD i 0<=m
 lt:∀i,i<hs.size->od.getD i 0<hs.size
 inj:∀i j,i<hs.size->j<hs.size->od.getD i 0=od.getD j 0->i=j
 sur:∀k,k<hs.size->∃i,i<hs.size/\od.getD i 0=k
 reach:∀i,i<hs.size->∃n,sl m (hs.getD (od.getD i 0) 0) n=pl.getD i 0/\∀k,k<n->In pl (sl m (hs.getD (od.getD i 0) 0) k)
theorem oR_ {m:Nat} (hm:Msk m) (fg mv:Nat) (led plain:Bool) (hs:Array Int) (hl:hs.size<=m+1):
  ∃pl od,laid m fg mv led plain hs=some ({mask:=m,place:=pl,dummies:= #[],finger:=fg,led:=led,moves:=mv,plain:=plain},od)/\Laid m hs pl od:=by
 obtain⟨o,ss,e,l⟩:=lq_ hm hs hl;have ln:hs.toList.length=hs.size:=Ay;refine⟨((bE_ m o).map (·.1)).toArray,((bE_ m o).map (·.2)).toArray, ?_, ?_⟩
 .unfold laid;rw [e];rfl
 have at_:∀i (h:i<(bE_ m o).length),((bE_ m o).map (·.1)).toArray.getD i 0=(bE_ m o)[i].1/\((bE_ m o).map (·.2)).toArray.getD i 0=(bE_ m o)[i].2/\o[(bE_ m o)[i].1]? =some (some (bE_ m o)[i].2):=fun i h=>by
  refine⟨by simp [Array.getD,h],by simp [Array.getD,h],(gk_ l.size _ _).mp ?_⟩;exact By h
 have ris:Ris ((bE_ m o).map (·.1)).toArray:=fun i j hij hj=>by
  have hj':j<(bE_ m o).length:=by simpa using hj
  rw [(at_ i (by lia)).1,(at_ j hj').1];exact CM.mp (oM_ m o) i j (by lia) hj' hij
 have sur:∀k,k<hs.size->∃i,∃h:i<(bE_ m o).length,(bE_ m o)[i].2=k/\(bE_ m o)[i].1=ss k:=fun k hk=>by
  have:=(gk_ l.size (ss k) k).mpr (l.at_ k (by rw [ln];exact hk)).2;obtain⟨i,hi,e⟩:=Bg.mp this;exact⟨i,hi,by rw [e],by rw [e]⟩
 have size:(bE_ m o).length=hs.size:=by
  have h1:=ft_ (bE_ m o).length hs.size (fun i=>((bE_ m o).map (·.2)).toArray.getD i 0) fun k hk=>by
   obtain⟨i,hi,e,_⟩:=sur k hk;exact⟨i,hi,by rw [(at_ i hi).2.1,e]⟩
  have h2:=ft_ hs.size (bE_ m o).length (fun k=>below ((bE_ m o).map (·.1)).toArray (ss k)) fun i hi=>by
   obtain⟨a1,a2,a3⟩:=at_ i hi;obtain⟨b1,b2⟩:=l.of_ _ _ a3;refine⟨(bE_ m o)[i].2,by lia, ?_⟩;rw [b2,<-a1];exact jy_ ris (by simpa using hi)
  lia
 have inOcc:∀j,Occ o j->In ((bE_ m o).map (·.1)).toArray j:=fun j ⟨k,hk⟩=>by
  obtain⟨i,hi,e⟩:=Bg.mp ((gk_ l.size j k).mpr hk);exact⟨i,by simpa using hi,by rw [(at_ i hi).1,e]⟩
 refine⟨by simpa using size,by simpa using size,ris,fun i hi=> ?_,fun i hi=> ?_,fun i j hi hj e=> ?_,fun k hk=> ?_,fun i hi=> ?_⟩
 .have hi':i<(bE_ m o).length:=by simpa using hi
  obtain⟨a1,a2,a3⟩:=at_ i hi';rw [a1];have:=(Bt.mp a3).1;have:=l.size;lia
 .obtain⟨a1,a2,a3⟩:=at_ i (by lia);rw [a2];have:=(l.of_ _ _ a3).1;lia
 .obtain⟨a1,a2,a3⟩:=at_ i (by lia);obtain⟨b1,b2,b3⟩:=at_ j (by lia);rw [a2,b2] at e;have e1:=(l.of_ _ _ a3).2;have e2:=(l.of_ _ _ b3).2;rw [e,e2] at e1;by_cases c:i<j
  .have:=ris i j c (by simp;lia);lia
  .by_cases c2:j<i
   .have:=ris j i c2 (by simp;lia);lia
   .lia
 .obtain⟨i,hi,e,_⟩:=sur k hk;exact⟨i,by lia,by rw [(at_ i hi).2.1,e]⟩
 .obtain⟨a1,a2,a3⟩:=at_ i (by lia);obtain⟨b1,b2⟩:=l.of_ _ _ a3;have hk:(bE_ m o)[i].2<hs.size:=by lia
  have eh:hs.toList[(bE_ m o)[i].2]? =some (hs.getD (bE_ m o)[i].2 0):=by simp [Array.getD,hk]
  obtain⟨n,e,q⟩:=l.reach _ _ eh;rw [a1,a2];exact⟨n,by rw [e,b2],fun k hk=>inOcc _ (q k hk)⟩
theorem nP_ {α β:Type}{f:α->Option β}{g:α->β}:∀(l:List α),(∀a∈l,f a=some (g a))->l.filterMap f=l.map g
 |[],_=>rfl
 |a::l,h=>by
  rw [List.filterMap_cons_some (h a (by simp)),AW,nP_ l fun b hb=>h b (by simp [hb])]
theorem pq_:sizeAbove 20=32:=by decide
theorem pp_:sizeAbove 76=128:=by decide
theorem Tb.again {t:SetTable}{es:Array (Int×Value)} (hm:(t.mask=7/\es.size=5)\/(t.mask=31/\es.size=19)):
  ∃pl od,t.relaid (es.map (·.1)) (grown es.size)=some ({mask:=sizeAbove (grown es.size)-1,place:=pl,dummies:= #[],finger:=t.finger,led:=t.led,moves:=t.movedTo (sizeAbove (grown es.size)-1),plain:=t.plain},od)/\
   Tb {mask:=sizeAbove (grown es.size)-1,place:=pl,dummies:= #[],finger:=t.finger,led:=t.led,moves:=t.movedTo (sizeAbove (grown es.size)-1),plain:=t.plain} (od.filterMap (es[·]?))/\
   (od.filterMap (es[·]?)).size=es.size/\(∀i,i<es.size->∃k,k<es.size/\(od.filterMap (es[·]?))[i]? =es[k]? /\k=od.getD i 0)/\
   (∀i j,i<es.size->j<es.size->od.getD i 0=od.getD j 0->i=j)/\(∀k,k<es.size->∃i,i<es.size/\od.getD i 0=k)/\
   es.size*5<(sizeAbove (grown es.size)-1)*3/\sizeAbove (grown es.size)<=sizeLine:=by
 have hM:Msk (sizeAbove (grown es.size)-1)/\es.size<=sizeAbove (grown es.size)-1+1/\es.size*5<(sizeAbove (grown es.size)-1)*3/\sizeAbove (grown es.size)<=sizeLine:=by
  rcases hm with⟨_,e⟩|⟨_,e⟩
  .rw [e,show grown 5=20 from rfl,pq_];exact⟨.inr (.inl rfl),by decide,by decide,by decide⟩
  .rw [e,show grown 19=76 from rfl,pp_];exact⟨.inr (.inr rfl),by decide,by decide,by decide⟩
 have sz:(es.map (·.1)).size=es.size:=Array.size_map;obtain⟨pl,od,e,L⟩:=oR_ hM.1 t.finger (t.movedTo (sizeAbove (grown es.size)-1)) t.led t.plain (es.map (·.1)) (by rw [sz];exact hM.2.1);have odlt:∀i,i<es.size->od.getD i 0<es.size:=fun i hi=>by have:=L.lt i (by rw [sz];exact hi);rw [sz] at this;exact this
 have ods:od.size=es.size:=by rw [L.os,sz]
 have fm:od.filterMap (es[·]?)=od.map fun k=>es.getD k (0, .none):=by
  apply Array.toList_inj.mp;rw [Array.toList_filterMap,Array.toList_map];refine nP_ _ fun k hk=> ?_;obtain⟨i,hi,ei⟩:=Bg.mp hk;have hi':i<od.size:=by simpa using hi
  have:k<es.size:=by
   have:=odlt i (by lia);simp only [Array.getD,hi',dite_true] at this;simp only [Array.getElem_toList] at ei;rw [<-ei];exact this
  simp [Array.getD,this]
 have fs:(od.filterMap (es[·]?)).size=es.size:=by rw [fm,Array.size_map,ods]
 have fat:∀i,i<es.size->(od.filterMap (es[·]?))[i]? =es[od.getD i 0]? :=fun i hi=>by
  have h2:=odlt i hi;have hi':i<od.size:=by lia
  rw [fm,Array.getElem?_map];have e1:od[i]? =some (od.getD i 0):=by simp [Array.getD,hi']
  rw [e1];simp only [Option.map_some];generalize od.getD i 0=k at h2⊢;simp [Array.getD,h2]
 refine⟨pl,od,e,⟨hM.1,rfl,by rw [fs];show pl.size=_;rw [L.ps,sz],L.ris,L.bnd,fun i hi=> ?_⟩,fs,fun i hi=>⟨od.getD i 0,odlt i hi,fat i hi,rfl⟩,fun i j hi hj=>L.inj i j (by rw [sz];exact hi) (by rw [sz];exact hj),fun k hk=> ?_,hM.2.2⟩
 .rw [fs] at hi;obtain⟨n,e1,e2⟩:=L.reach i (by rw [sz];exact hi);have eh:(es.map (·.1)).getD (od.getD i 0) 0=hAt (od.filterMap (es[·]?)) i:=by
   unfold hAt;rw [fat i hi];have h2:=odlt i hi;generalize od.getD i 0=k at h2⊢;simp [Array.getD,h2]
  rw [eh] at e1 e2;exact⟨n,e1,e2⟩
 .obtain⟨i,hi,ei⟩:=L.sur k (by rw [sz];exact hk);exact⟨i,by rw [sz] at hi;exact hi,ei⟩
end L2
namespace L2
open PySem PySem.SetTable PySem.Spec PyProof.Rows
section
variable {prog:Program}{w:World}{A:Around}{E:Value->Shared->Prop}{s:Shared}
theorem jf_ {k:List Int}{vs:List Value} (h:ItemsAre (intKind prog w) k vs):∀v∈vs,∃n t,v= .int n t:=by
 induction h with
 |nil=>intro v hv;simp at hv
 | @cons k v' ks vs h1 _ ih=>
  intro v hv;rcases AN.mp hv with rfl|hv
  .cases v with
   |int n t=>exact⟨n,t,rfl⟩
   |_=>exact absurd h1 (by simp [intKind,Value.isInt])
  .exact ih v hv
theorem eI_ {k:List Int}{x:Addr}{Q:Bool->Shared->Prop} (hx:IsTupleKey (intKind prog w) s.heap k x) (h:Q false s):
  wpAny (model prog w) A (ofAClassStatement 8 (.ref x)) Q E s:=by
 have hT:=hx.typeIs;obtain⟨o,items,n,ho,hc,hd,hi⟩:=hx;unfold ofAClassStatement;refine A0 (D' hT ?_);show wpAny _ _ ((if("tuple"=="tuple")=true then pure true else isSubtype (.type "tuple") (.type "tuple"))>>=_) _ _ s;refine A0 (A3 ?_);simp only [C3,AJ,As];refine A0 (wpAny_seqItems ho hd ?_);refine A0 ?_;show wpAny _ _ (forIn items _ _) _ _ s;rw [<-Array.forIn_toList];refine wpAny_forIn_list _ (fun dT_ r s'=>r.1=none/\s'=s/\∀v∈dT_,∃n t,v=Value.int n t) _ ?_ ?_ _ _ ⟨rfl,rfl,jf_ hi⟩
 .rintro v dT_ r s' ⟨hr,rfl,hall⟩;obtain⟨n,t,rfl⟩:=hall v BA;refine A0 (wpAny_of_eq (show ofAClassStatement 7 (.int n t)=pure false from by unfold ofAClassStatement;rfl) (A3 ?_));simp only [AJ,As];exact⟨trivial,trivial,fun u hu'=>hall u (At _ hu')⟩
 .rintro⟨r1,r2⟩ s' ⟨hr,rfl,_⟩;simp only at hr;subst hr;exact A3 h
theorem mp_ {k:List Int}{x:Addr}{Q:Bool->Shared->Prop} (hx:IsTupleKey (intKind prog w) s.heap k x) (ys:List Value)
  (hy:∀y∈ys,∃b j,y= .ref b/\IsTupleKey (intKind prog w) s.heap j b) (h:Q false s):
  wpAny (model prog w) A (searchCouldBeSeen (.ref x) ys) Q E s:=by
 unfold searchCouldBeSeen;refine A0 ?_;refine wpAny_forIn_list _ (fun dT_ r s'=>r.1=none/\s'=s/\∀v∈dT_,∃b j,v=Value.ref b/\IsTupleKey (intKind prog w) s.heap j b) _ ?_ ?_ _ _ ⟨rfl,rfl,hy⟩
 .rintro v dT_ r s' ⟨hr,rfl,hall⟩;obtain⟨b,j,rfl,hj⟩:=hall v BA;have hall':∀u∈dT_,∃b j,u=Value.ref b/\IsTupleKey (intKind prog w) s'.heap j b:=fun u hu'=>hall u (At _ hu');dsimp only;split
  .exact A3 ⟨rfl,rfl,hall'⟩
  .refine A0 (wpAny_eqIsQuiet_tuple hx ?_);simp only [C3,AJ,As];refine A0 (wpAny_eqIsQuiet_tuple hj ?_);simp only [C3,AJ,As];refine A0 (eI_ hx ?_);simp only [AJ,As];refine A0 (eI_ hj ?_);simp only [AJ,As];exact A3 ⟨rfl,rfl,hall'⟩
 .rintro⟨r1,r2⟩ s' ⟨hr,rfl,_⟩;simp only at hr;subst hr;exact A3 h
structure Ent (prog:Program) (w:World) (h:Heap) (es:Array (Int×Value)):Prop where
 ent:∀i,i<es.size->∃k b,es[i]? =some (tupleKeyHash (intKind prog w) k, .ref b)/\IsTupleKey (intKind prog w) h k b
 dis:∀(i j:Nat) (k:List Int) (b c:Addr) (g g':Int),es[i]? =some (g,Value.ref b)->es[j]? =some (g',Value.ref c)->IsTupleKey (intKind prog w) h k b->IsTupleKey (intKind prog w) h k c->i=j
def pw_ (prog:Program) (w:World) (h:Heap) (es:Array (Int×Value)) (k:List Int):Prop:=∃(i:Nat) (b:Addr),es[i]? =some (tupleKeyHash (intKind prog w) k, .ref b)/\IsTupleKey (intKind prog w) h k b
theorem kA_ (a:Addr) (x:Value) (h:Int) (adding:Bool) (fuel:Nat) (stand:Option Probe):setSearchFrom a x h adding (fuel+1) stand=(do
  let (es,_,t)<-setState a
  if t.gaveWay then unsupported "set:on-a-table-that-gave-way"
  let some met:=t.probe (hAt es) h (stand.getD (t.probeStart h))|unsupported "internal:set-table-without-an-empty-slot"
  match met with
  | .empty j dummy=>
   match dummy with
   |none=>return .free j false
   |some d=>
    if adding&&t.slot d != .dummy then rule "set.search.the-dummy-was-taken";return<-setSearchFrom a x h adding fuel none
    return .free d true
  | .candidate j i next=>
   if !t.led then
    if<-searchCouldBeSeen x ((es.filter (·.1==h)).toList.map (·.2)) then unsupported "set:the-search-would-show-the-table"
   let some (_,y):=es[i]? |unsupported "internal:set-entry"
   let equal<-holding [y] (eqBool y x)
   let (es',_,t')<-setState a
   if adding&&equal then return .there none
   let some same:=t'.sameMemory t.moves t.mask|unsupported "set.changed-during-lookup:is-the-new-block-at-the-old-address"
   let still<-match(if same then t'.slot j else .empty) with
    | .live i'=>match es'[i']? with
     |some (_,y')=>do pure (if<-isSame y' y then some i' else none)
     |none=>pure none
    |_=>pure none
   match still with
   |none=>rule "set.search.anew";setSearchFrom a x h adding fuel none
   |some i'=>if equal then return .there (some i') else setSearchFrom a x h adding fuel (some next)):=rfl
theorem jc_ {h:Heap}{es:Array (Int×Value)} (e:Ent prog w h es) {i:Nat} (hi:i<es.size) {k:List Int}{b:Addr}{g:Int} (he:es[i]? =some (g, .ref b)) (hk:IsTupleKey (intKind prog w) h k b):
  g=tupleKeyHash (intKind prog w) k:=by
 obtain⟨k',b',e',hk'⟩:=e.ent i hi;rw [e'] at he;simp only [Av,Be,Bp] at he;obtain⟨rfl,rfl⟩:=he;rw [hk.inj hk']
theorem c2_ {α:Type}{xs:Array α}{i:Nat}{a:α} (h:xs[i]? =some a):i<xs.size:=by
 rcases BP i xs.size with c|c
 .exact c
 .rw [BZ c] at h;exact nomatch h
theorem c4_ {es:Array (Int×Value)}{t:SetTable} (b:Tb t es) (hs:es.size<=t.mask):t.fits es.size=true:=by
 have h1:t.fill<=t.mask:=by
  unfold SetTable.fill;rw [b.dum,b.size];exact hs
 unfold SetTable.fits;rw [b.size,Ah h1];simp
theorem fp_ {a:Addr}{o:Obj}{es:Array (Int×Value)}{ep:Nat}{t:SetTable} (ho:s.heap.get? a=some o) (hd:o.data= .set es ep t) (b:Tb t es) (hs:es.size<=t.mask)
  (hu:A.units<cLine) (en:Ent prog w s.heap es) {k:List Int}{x:Addr} (hx:IsTupleKey (intKind prog w) s.heap k x) {Q:SetFound->Shared->Prop}
  (hT:pw_ prog w s.heap es k->Q (.there none) s)
  (hF:∀n,¬In t.place (sl t.mask (tupleKeyHash (intKind prog w) k) n)->(∀j,j<n->In t.place (sl t.mask (tupleKeyHash (intKind prog w) k) j))->¬pw_ prog w s.heap es k->
   Q (.free (sl t.mask (tupleKeyHash (intKind prog w) k) n) false) s):
  ∀(fuel n0:Nat) (stand:Option Probe),(∃N,n0<=N/\N<n0+fuel/\¬In t.place (sl t.mask (tupleKeyHash (intKind prog w) k) N))->
   (∀j,j<n0->∃i,i<t.place.size/\t.place.getD i 0=sl t.mask (tupleKeyHash (intKind prog w) k) j/\∀g c,es[i]? =some (g,Value.ref c)->¬IsTupleKey (intKind prog w) s.heap k c)->
   stand.getD (t.probeStart (tupleKeyHash (intKind prog w) k))=pAt t.mask (tupleKeyHash (intKind prog w) k) n0->
   wpAny (model prog w) A (setSearchFrom a (.ref x) (tupleKeyHash (intKind prog w) k) true fuel stand) Q E s
 |0,n0,_,⟨N,h1,h2,_⟩,_,_=>absurd h2 (by lia)
 |fuel+1,n0,stand,⟨N,h1,h2,h3⟩,hp,hst=>by
  have hf:t.fits es.size=true:=c4_ b hs;have hw:t.gaveWay=false:=by
   unfold SetTable.gaveWay;rcases b.mask with e|e|e<;>rw [e]<;>rfl
  rw [kA_];refine A0 (BJ ho hd hf ?_);dsimp only;rw [hw,hst];simp only [AJ,As];obtain⟨n,hn,hq,hr⟩:=b.probe hs (hAt es) (tupleKeyHash (intKind prog w) k) n0;have hp':∀j,j<n->∃i,i<t.place.size/\t.place.getD i 0=sl t.mask (tupleKeyHash (intKind prog w) k) j/\∀g c,es[i]? =some (g,Value.ref c)->¬IsTupleKey (intKind prog w) s.heap k c:=by
   intro j hj;rcases BP j n0 with c|c
   .exact hp j c
   .obtain⟨i,hi,ei,eh⟩:=hq j c hj;refine⟨i,hi,ei,fun g c e hk=> ?_⟩;have:=jc_ en (by rw [<-b.size];exact hi) e hk;unfold hAt at eh;rw [e] at eh;simp [this] at eh
  rcases hr with⟨r1,r2⟩|⟨i,hi,ei,eh,r2⟩
  .rw [r2];refine A3 (hF n r1 (fun j hj=> ?_) fun⟨i,c,e,hk⟩=> ?_)
   .obtain⟨i,hi,ei,_⟩:=hp' j hj;exact⟨i,hi,ei⟩
   .have hil:=c2_ e;obtain⟨m,em,hm⟩:=b.reach i hil;have eha:hAt es i=tupleKeyHash (intKind prog w) k:=by unfold hAt;rw [e];rfl
    rw [eha] at em hm;have hmn:m<n:=by
     rcases BP m n with c|c
     .exact c
     .exfalso;rcases BP n m with d|d
      .exact r1 (hm n d)
      .have:m=n:=by lia
       subst this;exact r1 ⟨i,by rw [b.size];exact hil,em.symm⟩
    obtain⟨i',hi',ei',hno⟩:=hp' m hmn;have:i'=i:=by
     rcases Nat.lt_trichotomy i' i with c|c|c
     .have:=b.ris i' i c (by rw [b.size];exact hil);lia
     .exact c
     .have:=b.ris i i' c hi';lia
    subst this;exact hno _ _ e hk
  .rw [r2];dsimp only;have hil:i<es.size:=by rw [<-b.size];exact hi
   obtain⟨k',y,ey,hy⟩:=en.ent i hil;have hSeen:∀y∈(es.filter (fun e=>e.1==tupleKeyHash (intKind prog w) k)).toList.map (·.2),∃b j,y=Value.ref b/\IsTupleKey (intKind prog w) s.heap j b:=by
    intro y hy;obtain⟨e,he,rfl⟩:=Aa.mp hy;have he':e∈es:=by
     have:=Array.mem_toList_iff.mp he;exact(Array.mem_filter.mp this).1
    obtain⟨i,hi,ei⟩:=Array.mem_iff_getElem.mp he';obtain⟨k',y,ey,hy'⟩:=en.ent i hi;rw [Ac hi,ei] at ey;simp only [Av] at ey;subst ey;exact⟨y,k',rfl,hy'⟩
   have goal2:wpAny (model prog w) A (do
     let some (_,y):=es[i]? |unsupported "internal:set-entry"
     let equal<-holding [y] (eqBool y (.ref x))
     let (es',_,t')<-setState a
     if true&&equal then return SetFound.there none
     let some same:=t'.sameMemory t.moves t.mask|unsupported "set.changed-during-lookup:is-the-new-block-at-the-old-address"
     let still<-match(if same then t'.slot (sl t.mask (tupleKeyHash (intKind prog w) k) n) else .empty) with
      | .live i'=>match es'[i']? with
       |some (_,y')=>do pure (if<-isSame y' y then some i' else none)
       |none=>pure none
      |_=>pure none
     match still with
     |none=>rule "set.search.anew";setSearchFrom a (.ref x) (tupleKeyHash (intKind prog w) k) true fuel none
     |some i'=>if equal then return SetFound.there (some i') else setSearchFrom a (.ref x) (tupleKeyHash (intKind prog w) k) true fuel (some (pAt t.mask (tupleKeyHash (intKind prog w) k) (n+1)))) Q E s:=by
    rw [ey];dsimp only;refine A0 (An (wpAny_eqBool_tuple hu hy hx ?_));refine A0 (BJ ho hd hf ?_);dsimp only;by_cases hkk:k'=k
    .subst hkk;rw [Ah rfl];simp only [Bool.true_and,CI];exact A3 (hT ⟨i,y,ey,hy⟩)
    .rw [AR hkk];simp only [CG,AJ,As];have hsm:t.sameMemory t.moves t.mask=some true:=by unfold SetTable.sameMemory;simp
     rw [hsm];dsimp only;rw [A9 rfl,<-ei,gJ_ b.ris hi];dsimp only;rw [ey];dsimp only;refine A0 ?_;refine wpAny_isSame_ref_self ?_;simp only [CI];refine fp_ ho hd b hs hu en hx hT hF fuel (n+1) _ ⟨N, ?_,by lia,h3⟩ ?_ rfl
     .have:n≠N:=fun e=>h3 (by rw [<-e];exact⟨i,hi,ei⟩);have:¬N<n:=fun c=>by
       obtain⟨i',hi',ei',_⟩:=hp' N c;exact h3 ⟨i',hi',ei'⟩
      lia
     .intro j hj;rcases BP j n with c|c
      .exact hp' j c
      .have:j=n:=by lia
       subst this;refine⟨i,hi,ei,fun g c e hk=>hkk ?_⟩;rw [ey] at e;simp only [Av,Be,Bp] at e;obtain⟨_,rfl⟩:=e;exact hy.inj hk
   cases hl:t.led with
   |true=>simpa only [C3,AJ,As] using goal2
   |false=>
    simp only [Bool.not_false,CI];refine A0 (mp_ hx _ hSeen ?_);simp only [AJ,As];exact goal2
def ma_ (h:Heap) (S:Addr) (led:Bool) (es:Array (Int×Value)):Prop:=
 ∃ep t,h.get? S=some {cls:= .type "set",dict:=none,data:= .set es ep t}/\Tb t es/\t.led=led/\t.plain=true/\es.size*5<t.mask*3
theorem hG_ {h:Heap}{a:Addr}{es:Array (Int×Value)}{ep:Nat}{t:SetTable} (ho:h.get? a=some {cls:= .type "set",dict:=none,data:= .set es ep t}) (es':Array (Int×Value)) (t':SetTable):
  (h.update a (Obj.putSet es' t')).get? a=some {cls:= .type "set",dict:=none,data:= .set es' (ep+1) t'}:=by
 have:=CK (Obj.putSet es' t') ho (by rw [putSet_of es' t' rfl];rfl);rw [putSet_of es' t' rfl] at this;exact this
theorem nB_ {h h':Heap}{S:Addr}{o o':Obj}{es es':Array (Int×Value)}{ep ep':Nat}{t t':SetTable} (q:Heap.SameBut S h h') (e:h.get? S=some o) (hd:o.data= .set es ep t)
  (e':h'.get? S=some o') (hd':o'.data= .set es' ep' t') (k:List Int) (x:Addr):
  IsTupleKey (intKind prog w) h k x↔IsTupleKey (intKind prog w) h' k x:=by
 constructor
 .rintro⟨o,items,n,ho,hc,hdd,hi⟩;refine⟨o,items,n,(q.2 x fun z=> ?_).trans ho,hc,hdd,hi⟩;subst z;rw [ho,Av] at e;subst e;rw [hd] at hdd;exact nomatch hdd
 .rintro⟨o,items,n,ho,hc,hdd,hi⟩;refine⟨o,items,n,(q.2 x fun z=> ?_).symm.trans ho,hc,hdd,hi⟩;subst z;rw [ho,Av] at e';subst e';rw [hd'] at hdd;exact nomatch hdd
theorem it_ {k:List Int}{x:Addr}{Q:Bool->Shared->Prop} (hx:IsTupleKey (intKind prog w) s.heap k x) (h:Q true s):
  wpAny (model prog w) A (hashByValue 8 (.ref x)) Q E s:=by
 have hT:=hx.typeIs;obtain⟨o,items,n,ho,hc,hd,hi⟩:=hx;unfold hashByValue;refine A0 (wpAny_specialOf hT F.slot_tuple_hash.lookup ?_);dsimp only;refine A0 (wpAny_seqItems ho hd ?_);refine A0 ?_;show wpAny _ _ (forIn items _ _) _ _ s;rw [<-Array.forIn_toList];refine wpAny_forIn_list _ (fun dT_ r s'=>r.1=none/\s'=s/\∀v∈dT_,∃n t,v=Value.int n t) _ ?_ ?_ _ _ ⟨rfl,rfl,jf_ hi⟩
 .rintro v dT_ r s' ⟨hr,rfl,hall⟩;obtain⟨n,t,rfl⟩:=hall v BA;refine A0 (wpAny_of_eq (show hashByValue 7 (.int n t)=pure true from by unfold hashByValue;rfl) (A3 ?_));simp only [C3,AJ,As];exact⟨trivial,trivial,fun u hu'=>hall u (At _ hu')⟩
 .rintro⟨r1,r2⟩ s' ⟨hr,rfl,_⟩;simp only at hr;subst hr;exact A3 h
theorem Ent.perm {h h':Heap}{es es':Array (Int×Value)} (en:Ent prog w h es) (hk:∀k x,IsTupleKey (intKind prog w) h k x↔IsTupleKey (intKind prog w) h' k x) (f:Nat->Nat)
  (hf:∀i,i<es'.size->f i<es.size/\es'[i]? =es[f i]?) (hj:∀i j,i<es'.size->j<es'.size->f i=f j->i=j):Ent prog w h' es':=by
 refine⟨fun i hi=> ?_,fun i j k b c g g' e1 e2 k1 k2=> ?_⟩
 .obtain⟨k,b,e,q⟩:=en.ent (f i) (hf i hi).1;exact⟨k,b,by rw [(hf i hi).2];exact e,(hk _ _).mp q⟩
 .have l1:=c2_ e1;have l2:=c2_ e2;rw [(hf i l1).2] at e1;rw [(hf j l2).2] at e2;exact hj i j l1 l2 (en.dis _ _ k b c g g' e1 e2 ((hk _ _).mpr k1) ((hk _ _).mpr k2))
theorem Ent.insert {h h':Heap}{es:Array (Int×Value)} (en:Ent prog w h es) (hk:∀k x,IsTupleKey (intKind prog w) h k x↔IsTupleKey (intKind prog w) h' k x) {p:Nat} (hp:p<=es.size) {k:List Int}{x:Addr}
  (hx:IsTupleKey (intKind prog w) h k x) (hno:¬pw_ prog w h es k):Ent prog w h' (insertAt es p (tupleKeyHash (intKind prog w) k, .ref x)):=by
 have old:∀(i:Nat) (k':List Int) (b:Addr) (g:Int),es[i]? =some (g,Value.ref b)->IsTupleKey (intKind prog w) h k' b->k'≠k:=by
  rintro i k' b g e q rfl;exact hno ⟨i,b,by rw [e,jc_ en (c2_ e) e q],q⟩
 refine⟨fun i hi=> ?_,fun i j k' b c g g' e1 e2 k1 k2=> ?_⟩
 .rw [bG_ hp] at hi;rw [d1_ hp];by_cases c1:i<p
  .rw [A9 c1];obtain⟨k',b,e,q⟩:=en.ent i (by lia);exact⟨k',b,e,(hk _ _).mp q⟩
  .rw [A7 c1];by_cases c2:i=p
   .rw [A9 c2];exact⟨k,x,rfl,(hk _ _).mp hx⟩
   .rw [A7 c2];obtain⟨k',b,e,q⟩:=en.ent (i-1) (by lia);exact⟨k',b,e,(hk _ _).mp q⟩
 .rw [d1_ hp] at e1 e2;have k1':=(hk _ _).mpr k1;have k2':=(hk _ _).mpr k2;have new:∀(b:Addr) (g:Int),some (tupleKeyHash (intKind prog w) k,Value.ref x)=some (g,Value.ref b)->IsTupleKey (intKind prog w) h k' b->k'=k:=by
   intro b g e q;simp only [Av,Be,Bp] at e;obtain⟨_,rfl⟩:=e;exact q.inj hx
  by_cases a1:i<p
  .rw [A9 a1] at e1;by_cases b1:j<p
   .rw [A9 b1] at e2;exact en.dis _ _ _ _ _ _ _ e1 e2 k1' k2'
   .rw [A7 b1] at e2;by_cases b2:j=p
    .rw [A9 b2] at e2;exact absurd (new _ _ e2 k2') (old _ _ _ _ e1 k1')
    .rw [A7 b2] at e2;have:=en.dis _ _ _ _ _ _ _ e1 e2 k1' k2';lia
  .rw [A7 a1] at e1;by_cases a2:i=p
   .rw [A9 a2] at e1;by_cases b1:j<p
    .rw [A9 b1] at e2;exact absurd (new _ _ e1 k1') (old _ _ _ _ e2 k2')
    .rw [A7 b1] at e2;by_cases b2:j=p
     .lia
     .rw [A7 b2] at e2;exact absurd (new _ _ e1 k1') (old _ _ _ _ e2 k2')
   .rw [A7 a2] at e1;by_cases b1:j<p
    .rw [A9 b1] at e2;have:=en.dis _ _ _ _ _ _ _ e1 e2 k1' k2';lia
    .rw [A7 b1] at e2;by_cases b2:j=p
     .rw [A9 b2] at e2;exact absurd (new _ _ e2 k2') (old _ _ _ _ e1 k1')
     .rw [A7 b2] at e2;have:=en.dis _ _ _ _ _ _ _ e1 e2 k1' k2';lia
theorem lE_ {es:Array (Int×Value)}{p:Nat} (hp:p<=es.size) (x v:Int×Value):(∃i:Nat,(insertAt es p x)[i]? =some v)↔(∃i:Nat,es[i]? =some v)\/v=x:=by
 constructor
 .rintro⟨i,e⟩;rw [d1_ hp] at e;split at e
  .exact .inl ⟨_,e⟩
  .split at e
   .rw [Av] at e;exact .inr e.symm
   .exact .inl ⟨_,e⟩
 .rintro(⟨i,e⟩|rfl)
  .by_cases c:i<p
   .exact⟨i,by rw [d1_ hp,A9 c];exact e⟩
   .exact⟨i+1,by rw [d1_ hp,A7 (by lia),A7 (by lia)];exact e⟩
  .exact⟨p,by rw [d1_ hp,A7 (by lia),A9 rfl]⟩
theorem mu_ (a:Addr) (wanted:Nat):setRelay a wanted=(do
  let (es,_,t)<-setState a
  if SetTable.sizeAbove wanted>sizeLine then unsupported "set:memory"
  let (es,t)<-(do
   let some (t,order):=t.relaid (es.map (·.1)) wanted|unsupported "internal:set-table-without-room"
   let es':=order.filterMap (es[·]?)
   if es'.size !=es.size then unsupported "internal:set-table-lost-an-element"
   pure (es',t):Sem (Array (Int×Value)×SetTable))
  storeSet a es t):=rfl
theorem po_ {S:Addr}{led:Bool}{es:Array (Int×Value)} (hS:ma_ s.heap S led es) (en:Ent prog w s.heap es) {k:List Int}{x:Addr} (hx:IsTupleKey (intKind prog w) s.heap k x)
  (hu:A.units<cLine) (h64:es.size<64) {Q:Bool->Shared->Prop}
  (h:∀b h' es',Heap.SameBut S s.heap h'->ma_ h' S led es'->Ent prog w h' es'->
   (pw_ prog w s.heap es k/\es'=es\/¬pw_ prog w s.heap es k/\es'.size=es.size+1/\∀v,(∃i:Nat,es'[i]? =some v)↔(∃i:Nat,es[i]? =some v)\/v=(tupleKeyHash (intKind prog w) k, .ref x))->Q b {s with heap:=h'}):
  wpAny (model prog w) A (setAddHashed S (.ref x) (tupleKeyHash (intKind prog w) k)) Q E s:=by
 have hS0:=hS;obtain⟨ep,t,ho,b,hl,hp,hr⟩:=hS;have hs:es.size<=t.mask:=by lia
 have hf:=c4_ b hs;unfold setAddHashed setAddHashedIn;refine An (A0 (BJ ho rfl hf ?_));dsimp only;have hsc:byScan (.ref x) es=false:=by unfold byScan;simp [Value.scannable]
 rw [hsc];simp only [AJ,As];unfold setSearch;obtain⟨e,he,hn⟩:=b.free hs;obtain⟨n1,h1,h2,h3⟩:=sk_ b.mask (tupleKeyHash (intKind prog w) k) 0 he;have ht:10*turns t.mask<100000:=by
  unfold turns;rcases b.mask with e|e|e<;>rw [e]<;>decide
 refine A0 (fp_ ho rfl b hs hu en hx (fun hk=> ?_) (fun n ha hb hno=> ?_) 100000 0 none ⟨n1,h1,by lia,by rw [h3];exact hn⟩ (fun j hj=>absurd hj (by lia)) rfl)
 .exact A3 (h false s.heap es (Heap.SameBut.refl _ _) hS0 en (.inl ⟨hk,rfl⟩))
 .dsimp only;refine A0 (BJ ho rfl hf ?_);dsimp only;have T1:=b.add (tupleKeyHash (intKind prog w) k) (.ref x) n ha (p1_ _ _ _) hb;have hpl:below t.place (sl t.mask (tupleKeyHash (intKind prog w) k) n)<=es.size:=by rw [<-b.size];exact(dy_ b.ris _).1
  have put:=nt_ t b.dum (sl t.mask (tupleKeyHash (intKind prog w) k) n);rw [put] at T1⊢;dsimp only at T1⊢;rw [A9 hp];refine A0 (it_ hx ?_);simp only [CI];generalize hpp:below t.place (sl t.mask (tupleKeyHash (intKind prog w) k) n)=p at T1 hpl⊢;generalize htt:({t with place:=insertAt t.place p (sl t.mask (tupleKeyHash (intKind prog w) k) n)}:SetTable)=t1 at T1⊢;have tm:t1.mask=t.mask:=by rw [<-htt]
  have tl:t1.led=led:=by rw [<-htt];exact hl
  have tp:t1.plain=true:=by rw [<-htt];exact hp
  have z1:(insertAt es p (tupleKeyHash (intKind prog w) k,Value.ref x)).size=es.size+1:=bG_ hpl _;have hsl:sizeLine>=4096:=by rw [B'];decide
  refine A0 (wpAny_storeSet_of ho rfl ?_ (by rw [z1];lia));have ho1:=(hG_ ho (insertAt es p (tupleKeyHash (intKind prog w) k,Value.ref x)) t1);have sb1:=BE s.heap S (Obj.putSet (insertAt es p (tupleKeyHash (intKind prog w) k,Value.ref x)) t1);generalize s.heap.update S (Obj.putSet (insertAt es p (tupleKeyHash (intKind prog w) k,Value.ref x)) t1)=h1 at ho1 sb1⊢;have s1:t1.place.size=es.size+1:=by rw [T1.size,z1]
  have fl:t1.fill=es.size+1:=by unfold SetTable.fill;rw [T1.dum,s1];rfl
  have hk1:∀k x,IsTupleKey (intKind prog w) s.heap k x↔IsTupleKey (intKind prog w) h1 k x:=fun k x=>nB_ sb1 ho rfl ho1 rfl k x;have en1:=en.insert hk1 hpl hx hno;by_cases full:t1.tooFull=true
  .rw [full];simp only [Bool.not_false,Bool.and_self,CI];have fe:(es.size+1)*5>=t.mask*3:=by
    unfold SetTable.tooFull at full;rw [fl,tm] at full;simpa using full
   have hm:(t1.mask=7/\(insertAt es p (tupleKeyHash (intKind prog w) k,Value.ref x)).size=5)\/(t1.mask=31/\(insertAt es p (tupleKeyHash (intKind prog w) k,Value.ref x)).size=19):=by
    rw [z1,tm];rcases b.mask with e|e|e<;>lia
   obtain⟨pl,od,r1,r2,r3,r4,r5,r6,r7,r8⟩:=Tb.again hm;rw [<-z1,mu_];have hf1:t1.fits (insertAt es p (tupleKeyHash (intKind prog w) k,Value.ref x)).size=true:=c4_ T1 (by rcases hm with⟨e1,e2⟩|⟨e1,e2⟩<;>lia)
   refine A0 ?_;refine A0 (BJ (s:={s with heap:=h1}) ho1 rfl hf1 ?_);dsimp only;rw [A7 (by lia)];rw [r1];dsimp only;rw [show((od.filterMap ((insertAt es p (tupleKeyHash (intKind prog w) k,Value.ref x))[·]?)).size !=(insertAt es p (tupleKeyHash (intKind prog w) k,Value.ref x)).size)=false from by rw [r3];simp];simp only [AJ,As];refine A0 (A3 ?_);refine wpAny_storeSet_of (s:={s with heap:=h1}) ho1 rfl ?_ (by rw [r3,z1];lia);have ho2:=(hG_ ho1 (od.filterMap ((insertAt es p (tupleKeyHash (intKind prog w) k,Value.ref x))[·]?)) {mask:=sizeAbove (grown (insertAt es p (tupleKeyHash (intKind prog w) k,Value.ref x)).size)-1,place:=pl,dummies:= #[],finger:=t1.finger,led:=t1.led,moves:=t1.movedTo (sizeAbove (grown (insertAt es p (tupleKeyHash (intKind prog w) k,Value.ref x)).size)-1),plain:=t1.plain});have sb2:=BE h1 S (Obj.putSet (od.filterMap ((insertAt es p (tupleKeyHash (intKind prog w) k,Value.ref x))[·]?)) {mask:=sizeAbove (grown (insertAt es p (tupleKeyHash (intKind prog w) k,Value.ref x)).size)-1,place:=pl,dummies:= #[],finger:=t1.finger,led:=t1.led,moves:=t1.movedTo (sizeAbove (grown (insertAt es p (tupleKeyHash (intKind prog w) k,Value.ref x)).size)-1),plain:=t1.plain});dsimp only at ho2 sb2⊢;generalize h1.update S _=h2 at ho2 sb2⊢;have hk2:∀k x,IsTupleKey (intKind prog w) h1 k x↔IsTupleKey (intKind prog w) h2 k x:=fun k x=>nB_ sb2 ho1 rfl ho2 rfl k x;refine A3 (h true h2 _ (sb1.trans sb2) ⟨_,_,ho2,r2,tl,tp,by rw [r3];exact r7⟩ (en1.perm hk2 (fun i=>od.getD i 0) (fun i hi=> ?_) fun i j hi hj e=>r5 i j (by rw [<-r3];exact hi) (by rw [<-r3];exact hj) e) (.inr ⟨hno,by rw [r3,z1],fun v=> ?_⟩))
   .rw [r3] at hi;obtain⟨q,q1,q2,q3⟩:=r4 i hi;rw [<-q3];exact⟨q1,q2⟩
   .rw [<-lE_ hpl];constructor
    .rintro⟨i,e⟩;obtain⟨q,q1,q2,q3⟩:=r4 i (by rw [<-r3];exact c2_ e);exact⟨q,by rw [<-q2];exact e⟩
    .rintro⟨i,e⟩;obtain⟨i',hi',e'⟩:=r6 i (c2_ e);obtain⟨q,q1,q2,q3⟩:=r4 i' hi';exact⟨i',by rw [q2,q3,e'];exact e⟩
  .rw [show t1.tooFull=false from by simpa using full];simp only [Bool.not_false,CG,AJ,As];have fe:(es.size+1)*5<t1.mask*3:=by
    unfold SetTable.tooFull at full;rw [fl] at full;simpa using full
   exact A3 (h true h1 _ sb1 ⟨_,_,ho1,T1,tl,tp,by rw [z1];exact fe⟩ en1 (.inr ⟨hno,z1,fun v=>lE_ hpl _ _⟩))
end
end L2
namespace L2
open PySem PySem.SetTable PySem.Spec PyProof.Rows
section
variable {prog:Program}{w:World}{A:Around}{E:Value->Shared->Prop}{s:Shared}
theorem Ent.mv {h h':Heap}{es:Array (Int×Value)} (en:Ent prog w h es) (hk:∀(i:Nat) (k:List Int) (g:Int) (x:Addr),es[i]? =some (g,Value.ref x)->IsTupleKey (intKind prog w) h k x->IsTupleKey (intKind prog w) h' k x):Ent prog w h' es:=by
 refine⟨fun i hi=> ?_,fun i j k b c g g' e1 e2 k1 k2=> ?_⟩
 .obtain⟨k,b,e,q⟩:=en.ent i hi;exact⟨k,b,e,hk i k _ b e q⟩
 .obtain⟨k',b',e1',q1⟩:=en.ent i (c2_ e1);obtain⟨k'',b'',e2',q2⟩:=en.ent j (c2_ e2);rw [e1] at e1';rw [e2] at e2';simp only [Av,Be,Bp] at e1' e2';obtain⟨rfl,rfl⟩:=e1';obtain⟨rfl,rfl⟩:=e2';have:=k1.inj (hk i k' _ b e1 q1);subst this;have:=k2.inj (hk j k'' _ c e2 q2);subst this;exact en.dis i j _ _ _ _ _ e1 e2 q1 q2
structure Made (prog:Program) (w:World) (kk:Nat->List Int) (ad:Nat->Addr) (i:Nat) (es:Array (Int×Value)):Prop where
 size:es.size<=i
 from_:∀(p:Nat) (v:Int×Value),es[p]? =some v->∃j,j<i/\v=(tupleKeyHash (intKind prog w) (kk j),Value.ref (ad j))
 all:∀j,j<i->∃(p j':Nat),j'<i/\kk j'=kk j/\es[p]? =some (tupleKeyHash (intKind prog w) (kk j'),Value.ref (ad j'))
theorem Made.step {kk:Nat->List Int}{ad:Nat->Addr}{i:Nat}{es es':Array (Int×Value)}{h:Heap} (m:Made prog w kk ad i es) (en:Ent prog w h es) (hkk:∀j,j<=i->IsTupleKey (intKind prog w) h (kk j) (ad j))
  (c:pw_ prog w h es (kk i)/\es'=es\/¬pw_ prog w h es (kk i)/\es'.size=es.size+1/\∀v,(∃p:Nat,es'[p]? =some v)↔(∃p:Nat,es[p]? =some v)\/v=(tupleKeyHash (intKind prog w) (kk i), .ref (ad i))):
  Made prog w kk ad (i+1) es':=by
 rcases c with⟨⟨p,b,e,q⟩,rfl⟩|⟨_,z,mem⟩
 .refine⟨Nat.le_succ_of_le m.size,fun p v e=> ?_,fun j hj=> ?_⟩
  .obtain⟨j,hj,ev⟩:=m.from_ p v e;exact⟨j,by lia,ev⟩
  .by_cases c:j<i
   .obtain⟨p,j',hj',ek,ev⟩:=m.all j c;exact⟨p,j',by lia,ek,ev⟩
   .have:j=i:=by lia
    subst this;obtain⟨j',hj',ev⟩:=m.from_ p _ e;simp only [Be,Bp] at ev;obtain⟨_,rfl⟩:=ev;have:=q.inj (hkk j' (by lia));exact⟨p,j',by lia,this.symm,by rw [e,this]⟩
 .refine⟨by rw [z];have:=m.size;lia,fun p v e=> ?_,fun j hj=> ?_⟩
  .rcases(mem v).mp ⟨p,e⟩ with⟨p',e'⟩|e'
   .obtain⟨j,hj,ev⟩:=m.from_ p' v e';exact⟨j,by lia,ev⟩
   .exact⟨i,by lia,e'⟩
  .by_cases c:j<i
   .obtain⟨p,j',hj',ek,ev⟩:=m.all j c;obtain⟨p',e'⟩:=(mem _).mpr (.inl ⟨p,ev⟩);exact⟨p',j',by lia,ek,e'⟩
   .have:j=i:=by lia
    subst this;obtain⟨p',e'⟩:=(mem _).mpr (.inr rfl);exact⟨p',j,by lia,rfl,e'⟩
theorem ma_.mv {h h':Heap}{S:Addr}{led:Bool}{es:Array (Int×Value)} (a:ma_ h S led es) (e:∀o,h.get? S=some o->h'.get? S=some o):ma_ h' S led es:=by
 obtain⟨ep,t,ho,r⟩:=a;exact⟨ep,t,e _ ho,r⟩
theorem hj_ {h h':Heap}{k:List Int}{x:Addr} (q:IsTupleKey (intKind prog w) h k x) (e:∀o,h.get? x=some o->h'.get? x=some o):IsTupleKey (intKind prog w) h' k x:=by
 obtain⟨o,items,n,ho,r⟩:=q;exact⟨o,items,n,e _ ho,r⟩
theorem oH_ (a:Value) {Q₁:Value->Shared->Prop}
  (h:Q₁ (.ref s.heap.objs.size) {s with heap:=s.heap.push {cls:= .type "set",dict:=none,data:= .set #[] 0 (.fresh 0 0 (!w.params.followText "set-order"))}}):
  codeAny (model prog w) A (.call (.builtin "set.__new__") ⟨[.type "set",a],[]⟩) (wants Q₁ E) s:=by
 refine codeAny_of_tree ?_;show wpAny _ A.in1 (do checkBuiltinCall "set.__new__" ⟨[.type "set",a],[]⟩;again (.builtin "set.__new__" ⟨[.type "set",a],[]⟩)) _ _ s;refine A0 (wpAny_of_eq (F.newCall_set_1 a) (A3 ⟨Cz F.plain_set_new _,Bo F.entry_set_new ?_⟩));rw [Bk F.plain_set_new _];unfold Builtin.«set.__new__» Builtin.Frozenset.newClass;have hsub:=sub_set_self;obtain⟨hp,g,d,tk,os⟩:=s;dsimp only
 wp_walk
 refine Cw (A3 ?_);dsimp only;simp only [newObj];refine A0 (wpAny_alloc (A3 ?_));exact A3 h
theorem mY_ (led:Bool):Tb (.fresh 0 0 led) #[]:=
 ⟨.inl rfl,rfl,rfl,fun i j _ h=>absurd h (by show¬j<0;lia),fun i h=>absurd h (by show¬i<0;lia),fun i h=>absurd h (by show¬i<0;lia)⟩
end
end L2
namespace L2
open PySem PySem.SetTable PySem.Spec PyProof.Rows
theorem e1_:entryFor table "set.__iter__"=some Builtin.«frozenset.__iter__»:=
 entryFor_alias (id':="frozenset.__iter__") (by kernel_rfl) rfl (by ac_nf) (by kernel_rfl)
theorem cU_:Slot "set_iterator" "__iter__" "set_iterator.__iter__":=
 .of (owner:="set_iterator") (n:="__iter__") (by rw [typeLookup_type,builtinLookup_eq_fast];kernel_rfl) (by ac_nf) (by ac_nf) (by ac_nf)
  (by first|exact .inl (by ac_nf)|exact .inr (by ac_nf)) (by rw [isSubtype_type];kernel_rfl)
theorem e0_:entryFor table "set_iterator.__iter__"=some Builtin.«dict_keyiterator.__iter__»:=
 entryFor_alias (id':="dict_keyiterator.__iter__") (by kernel_rfl) rfl (by ac_nf) (by kernel_rfl)
theorem fl_ (a:Value):argsOk "set_iterator.__iter__" ⟨[a],[]⟩:=by unfold argsOk;kernel_rfl
theorem a3_:Slot "set_iterator" "__next__" "set_iterator.__next__":=
 .of (owner:="set_iterator") (n:="__next__") (by rw [typeLookup_type,builtinLookup_eq_fast];kernel_rfl) (by ac_nf) (by ac_nf) (by ac_nf)
  (by first|exact .inl (by ac_nf)|exact .inr (by ac_nf)) (by rw [isSubtype_type];kernel_rfl)
theorem cJ_:entryFor table "set_iterator.__next__"=some Builtin.«set_iterator.__next__»:=entryFor_of_tree (by kernel_rfl)
theorem c3_ (a:Value):argsOk "set_iterator.__next__" ⟨[a],[]⟩:=by unfold argsOk;kernel_rfl
theorem lP_ {α:Type}:∀(l:List α) (i:Nat) (h:i<l.length),([l[i]]++l.eraseIdx i).Perm l
 |[],i,h=>absurd h (by simp)
 |a::l,0,h=>by simp
 |a::l,i+1,h=>by
  have hi:i<l.length:=by simpa using h
  have:=lP_ l i hi;simp only [List.getElem_cons_succ,List.eraseIdx_cons_succ,List.singleton_append] at this⊢;exact(List.Perm.swap a l[i] _).trans (this.cons a)
theorem kS_ {α:Type} (next:Nat->Nat):∀(f k:Nat) (left:List α) (out:Array α),left.length=f->(pickOrder.go next f k left out).toList.Perm (out.toList++left)
 |0,k,left,out,e=>by
  have:left=[]:=BD.mp e;subst this;unfold pickOrder.go;simp
 |f+1,k,left,out,e=>by
  have hp:next k%left.length<left.length:=Cj _ (by lia);unfold pickOrder.go;rw [A1 hp];dsimp only;refine(kS_ next f (k+1) _ _ (by rw [List.length_eraseIdx_of_lt hp];lia)).trans ?_;rw [Array.toList_push,BX];refine List.Perm.append_left _ ?_;exact lP_ left _ hp
theorem kR_ {α:Type} (next:Nat->Nat) (xs:Array α):(pickOrder next xs).toList.Perm xs.toList:=by
 unfold pickOrder;simpa using kS_ next xs.size 0 xs.toList #[] (by simp)
def me_ (w:World) (a:Addr) (ep:Nat) (es:Array (Int×Value)):Array (Int×Value):=if w.params.followText "set-order" then pickOrder (w.params.setOrder a ep) es else es
theorem kb_ (w:World) (a:Addr) (ep:Nat) (es:Array (Int×Value)):(me_ w a ep es).toList.Perm es.toList:=by
 unfold me_;split
 .exact kR_ _ _
 .exact List.Perm.refl _
theorem hN_ (w:World) (a:Addr) (ep:Nat) (es:Array (Int×Value)):(me_ w a ep es).size=es.size:=by
 have:=(kb_ w a ep es).length_eq;simpa using this
def e7_ (w:World) (t:SetTable) (i:Nat):Nat:=if w.params.followText "set-order" then 0 else if i=0 then 0 else t.place.getD (i-1) 0+1
theorem hD_ {xs:Array Nat} (r:Ris xs) {j p:Nat} (hp:p<=xs.size) (h1:∀i,i<p->xs.getD i 0<j) (h2:∀i,p<=i->i<xs.size->j<=xs.getD i 0):below xs j=p:=by
 obtain⟨a1,a2,a3⟩:=dy_ r j;rcases Nat.lt_trichotomy (below xs j) p with c|c|c
 .have:=h1 _ c;have:=a3 _ (A5 _) (by lia);lia
 .exact c
 .have:=a2 _ c;have:=h2 p (A5 _) (by lia);lia
theorem ne_ {t:SetTable} (r:Ris t.place) {i:Nat} (hi:i<=t.place.size):below t.place (if i=0 then 0 else t.place.getD (i-1) 0+1)=i:=by
 by_cases z:i=0
 .subst z;exact hD_ r (AT _) (fun i h=>absurd h (by lia)) fun i _ _=>AT _
 .rw [A7 z];refine hD_ r hi (fun j hj=> ?_) fun j h1 h2=> ?_
  .rcases BP j (i-1) with c|c
   .have:=r j (i-1) c (by lia);lia
   .have:j=i-1:=by lia
    subst this;lia
  .have:=r (i-1) j (by lia) h2;lia
section
variable {prog:Program}{w:World}{A:Around}{E:Value->Shared->Prop}{s:Shared}
theorem oG_ (a:Addr) (slot given epochThen:Nat):setNext a slot given epochThen=(do
  let (es,epoch,t)<-setState a
  if<-setsByText then
   if epoch !=epochThen then unsupported "set_iterator.__next__:elements-changed"
   return ((<-setWalk a)[given]?).map fun e=>(e.2,slot)
  if !t.plain&&es.size>1 then unsupported "set_iterator.__next__:the-table-is-plain-no-more"
  (do if !t.led&& !es.isEmpty then unsupported "set:maker-not-led":Sem Unit)
  let i:=SetTable.below t.place slot
  return match es[i]?,t.place[i]? with
   |some (_,x),some j=>some (x,j+1)
   |_,_=>none):=rfl
theorem iF_ {S:Addr}{es:Array (Int×Value)}{ep:Nat}{t:SetTable}{i:Nat}{Q:Option (Value×Nat)->Shared->Prop}
  (ho:s.heap.get? S=some {cls:= .type "set",dict:=none,data:= .set es ep t}) (b:Tb t es) (hs:es.size<=t.mask) (hl:t.led= !w.params.followText "set-order") (hp:t.plain=true) (hi:i<=es.size)
  (h:Q (((me_ w S ep es)[i]?).map fun e=>(e.2,e7_ w t (i+1))) s):wpAny (model prog w) A (setNext S (e7_ w t i) i ep) Q E s:=by
 have hf:=c4_ b hs;rw [oG_];refine A0 (BJ ho rfl hf ?_);dsimp only;unfold setsByText;refine A0 (A0 (Cw (A3 ?_)));show wpAny _ _ (if(w.params.followText "set-order")=true then _ else _) _ _ s;unfold me_ e7_ at h;unfold e7_;cases ht:w.params.followText "set-order" with
 |true=>
  rw [ht] at h;simp only [CI] at h⊢;simp only [CZ,AJ,As];unfold setWalk;refine A0 (A0 (BJ ho rfl hf ?_));dsimp only;unfold setsByText;refine A0 (A0 (Cw (A3 ?_)));show wpAny _ _ (if(w.params.followText "set-order")=true then _ else _) _ _ s;rw [ht];simp only [CI];refine A0 (Cw (A3 ?_));exact A3 h
 |false=>
  rw [ht] at h hl;simp only [AJ,As] at h⊢;rw [hp,hl];simp only [C3,Bool.not_false,Bool.false_and,AJ,As];refine A0 (A3 ?_);rw [ne_ b.ris (by rw [b.size];exact hi)];refine A3 ?_;rcases BP i es.size with c|c
  .have c':i<t.place.size:=by rw [b.size];exact c
   have e2:t.place.getD (i+1-1) 0=t.place[i]:=by simp [Array.getD,c']
   rw [Ac c] at h⊢;rw [Ac c'];rw [A7 (by lia),e2] at h;exact h
  .rw [BZ c] at h⊢;exact h
def fm_ (h:Heap) (it S:Addr) (slot i n ep:Nat):Prop:=∃o,h.get? it=some o/\o.cls= .type "set_iterator"/\o.data= .fields #[.int slot 0, .int i 0, .ref S, .int n 0, .int ep 0]
theorem fm_.typeIs {it S:Addr}{slot i n ep:Nat} (x:fm_ s.heap it S slot i n ep):s.TypeIs (.ref it) "set_iterator":=let ⟨o,ho,hc,_⟩:=x;⟨o,ho,hc⟩
theorem fm_.mv {h h':Heap}{it S:Addr}{slot i n ep:Nat} (x:fm_ h it S slot i n ep) (e:∀o,h.get? it=some o->h'.get? it=some o):fm_ h' it S slot i n ep:=let ⟨o,ho,r⟩:=x;⟨o,e _ ho,r⟩
theorem mR_ {S:Addr}{es:Array (Int×Value)}{ep:Nat}{t:SetTable}{Q:Value->Shared->Prop}
  (ho:s.heap.get? S=some {cls:= .type "set",dict:=none,data:= .set es ep t}) (b:Tb t es) (hs:es.size<=t.mask) (hp:t.plain=true)
  (h:Q (.ref s.heap.objs.size) {s with heap:=s.heap.push {cls:= .type "set_iterator",data:= .fields #[.int (e7_ w t 0:Nat) 0, .int (0:Nat) 0, .ref S, .int es.size 0, .int ep 0]}}):
  wpAny (model prog w) A (pyIter (.ref S)) Q E s:=by
 have hT:s.TypeIs (.ref S) "set":=⟨_,ho,rfl⟩;have hf:=c4_ b hs;refine wpAny_pyIter_slot hT F.slot_set_iter (Ar F.slot_set_iter hT e1_ ?_ (F.args_set_iter_1 _));unfold Builtin.«frozenset.__iter__» Builtin.Frozenset.slot0 slotArgs;simp only [List.isEmpty_nil,C3,AJ,↓reduceIte,bind_assoc,List.length_nil,CZ];unfold Builtin.Frozenset.addrOf Builtin.Frozenset.sizeOf setEntries;refine A0 (A3 ?_);try dsimp only
 refine A0 (A3 ?_);refine A0 (A0 (A0 (BJ ho rfl hf (A3 (A3 ?_)))));have hdr:∀{Q':Bool->Shared->Prop},Q' false s->wpAny (model prog w) A.in1 (setDrawn S) Q' E s:=by
  intro Q' q;unfold setDrawn;refine A0 (BJ ho rfl hf ?_);dsimp only;unfold setsByText;refine A0 (A0 (Cw (A3 ?_)));refine A3 ?_;have:(!t.plain&&decide (es.size>1))=false:=by rw [hp];rfl
  show Q' (!w.params.followText "set-order"&&(!t.plain&&decide (es.size>1))) s;rw [this,CG];exact q
 refine A0 (hdr ?_);simp only [AJ,As];refine A0 (A3 ?_);refine A0 (wpAny_setEpoch_of ho rfl hf ?_);unfold newFields;refine A0 (Aq (A3 ⟨_,rfl,"set_iterator",_,⟨_,AH _ rfl,rfl⟩,a3_.lookup, ?_⟩));have e0:e7_ w t 0=0:=by unfold e7_;split<;>rfl
 rw [e0] at h;simpa [rawInt] using h
theorem fG_ {h:Heap}{a:Addr}{o:Obj}{vs:Array Value} (ho:h.get? a=some o) (hd:o.data= .fields vs) (f:Array Value->Array Value):
  ∃o',(h.update a (Obj.mapFields f)).get? a=some o'/\o'.cls=o.cls/\o'.data= .fields (f vs):=
 ⟨_,CK _ ho (Obj.isFreed_of_fields (C8 hd _)),Obj.cls_mapFields ..,C8 hd _⟩
theorem kz_ {it S:Addr}{es:Array (Int×Value)}{ep:Nat}{t:SetTable}{i:Nat}{e:Int×Value}{Q:Option Value->Shared->Prop} (hit:fm_ s.heap it S (e7_ w t i) i es.size ep)
  (ho:s.heap.get? S=some {cls:= .type "set",dict:=none,data:= .set es ep t}) (b:Tb t es) (hs:es.size<=t.mask) (hl:t.led= !w.params.followText "set-order") (hp:t.plain=true) (hi:i<es.size)
  (he:(me_ w S ep es)[i]? =some e) (hQ:∀h',fm_ h' it S (e7_ w t (i+1)) (i+1) es.size ep->Heap.SameBut it s.heap h'->Q (some e.2) {s with heap:=h'}):
  wpAny (model prog w) A (pyNext (.ref it)) Q E s:=by
 obtain⟨o,hoi,hc,hd⟩:=id hit;have hf:=c4_ b hs;unfold pyNext;refine A0 (CH (BK (name:=Str.ofString "__next__") hit.typeIs a3_
  (Ar a3_ hit.typeIs cJ_ ?_ (c3_ _))))
 show wpAny _ _ (fieldsOf (.ref it)>>=_) _ _ s;refine A0 (Ck hoi hd ?_);dsimp only;unfold setEntries;refine A0 (A0 (BJ ho rfl hf (A3 ?_)));dsimp only;rw [A7 (by simp)];simp only [AU];refine A0 (iF_ ho b hs hl hp (Az hi) ?_);rw [he];dsimp only [Option.map_some];refine A0 (CN hoi hd (by simp) ?_);obtain⟨o1,ho1,hc1,hd1⟩:=fG_ hoi hd (·.setIfInBounds 0 (rawInt (e7_ w t (i+1):Nat)));have sb1:=BE s.heap it (Obj.mapFields (·.setIfInBounds 0 (rawInt (e7_ w t (i+1):Nat))));generalize s.heap.update it (Obj.mapFields (·.setIfInBounds 0 (rawInt (e7_ w t (i+1):Nat))))=h1 at ho1 sb1⊢;refine A0 (CN (s:={s with heap:=h1}) ho1 hd1 (by simp) ?_);obtain⟨o2,ho2,hc2,hd2⟩:=fG_ ho1 hd1 (·.setIfInBounds 1 (rawInt ((i:Int)+1)));have sb2:=BE h1 it (Obj.mapFields (·.setIfInBounds 1 (rawInt ((i:Int)+1))));dsimp only;generalize h1.update it (Obj.mapFields (·.setIfInBounds 1 (rawInt ((i:Int)+1))))=h2 at ho2 sb2⊢;refine A3 ⟨_,rfl,A3 (hQ _ ⟨o2,ho2,by rw [hc2,hc1,hc], ?_⟩ (sb1.trans sb2))⟩;rw [hd2];simp [rawInt]
theorem mo_ {it S:Addr}{es:Array (Int×Value)}{ep:Nat}{t:SetTable}{Q:Option Value->Shared->Prop} (hh:A.handled=none) (hit:fm_ s.heap it S (e7_ w t es.size) es.size es.size ep)
  (ho:s.heap.get? S=some {cls:= .type "set",dict:=none,data:= .set es ep t}) (b:Tb t es) (hs:es.size<=t.mask) (hl:t.led= !w.params.followText "set-order") (hp:t.plain=true)
  (hQ:∀h',Heap.ExtBut it s.heap h'->Q none {s with heap:=h'}):
  wpAny (model prog w) A (pyNext (.ref it)) Q E s:=by
 obtain⟨o,hoi,hc,hd⟩:=id hit;have hf:=c4_ b hs;unfold pyNext;refine A0 (CH (BK (name:=Str.ofString "__next__") hit.typeIs a3_
  (Ar a3_ hit.typeIs cJ_ ?_ (c3_ _))))
 show wpAny _ _ (fieldsOf (.ref it)>>=_) _ _ s;refine A0 (Ck hoi hd ?_);dsimp only;unfold setEntries;refine A0 (A0 (BJ ho rfl hf (A3 ?_)));dsimp only;rw [A7 (by simp)];simp only [AU];refine A0 (iF_ ho b hs hl hp (A5 _) ?_);rw [BZ (by rw [hN_];exact A5 _)];dsimp only [Option.map_none];refine A0 (CN hoi hd (by simp) ?_);show wpAny _ _ (newExc (.type "StopIteration") []>>=_) _ _ _;refine A0 ?_;simp only [newExc,newTuple];refine A0 (Aq ?_ (by size_fits));refine A0 (m:=firstArgMember _ _) (wpAny_of_eq (a:=Value.none) (by first|rfl|(simp only [firstArgMember];rfl)) ?_);refine Aq ?_ (by size_fits);simp only [raiseNew];refine A0 (wpAny_handled ?_);rw [show A.in1.handled=none from hh];refine A0 (A3 (wpAny_throw ?_));refine A0 (wpAny_isInstance (T:="StopIteration") (b:=true) ⟨_,AH _ rfl,rfl⟩ isSubtype_stop ?_);exact A3 (hQ _ (((BE ..).extBut.push _).push _))
theorem mf_ (hh:A.handled=none) (I S:Addr) (hne:S≠I) {es:Array (Int×Value)}{ep:Nat}{t:SetTable} (b:Tb t es) (hs:es.size<=t.mask) (hl:t.led= !w.params.followText "set-order") (hp:t.plain=true):
  Walks prog w A I [I,S] [I] es.size (fun i v=>∃e,(me_ w S ep es)[i]? =some e/\v=e.2) (fun i h=>fm_ h I S (e7_ w t i) i es.size ep/\h.get? S=some {cls:= .type "set",dict:=none,data:= .set es ep t}) where
 sub:=fun b hb=>by simp at hb;simp [hb]
 frame:=fun _ _ _ st hk=>⟨st.1.mv fun o e=>hk I (by simp) o e,hk S (by simp) _ st.2⟩
 item:=fun i s Q E hi st hQ=>by
  have hi':i<(me_ w S ep es).size:=by rw [hN_];exact hi
  refine kz_ st.1 st.2 b hs hl hp hi (Ac hi') fun h' hit' hs'=> ?_;exact hQ _ h' s.toks ⟨_,Ac hi',rfl⟩ ⟨hit',hs'.extBut S _ hne st.2⟩ fun b o hb e=>hs'.extBut b o (fun h=>hb (by simp [h])) e
 done:=fun s Q E st hQ=>mo_ hh st.1 st.2 b hs hl hp fun h' he'=>hQ h' s.toks fun b o hb e=>he' b o (fun h=>hb (by simp [h])) e
 self:=fun _ s _ _ st hQ=>by
  refine wpAny_pyIter_slot st.1.typeIs cU_ (Ar cU_ st.1.typeIs e0_ ?_ (fl_ _));show wpAny _ _ (ret (.ref I)) _ _ s;exact A3 ⟨_,rfl,"set_iterator",_,st.1.typeIs,a3_.lookup,hQ⟩
end
end L2
namespace L2
open PySem PySem.SetTable PySem.Spec PyProof.Rows PySem.W
section
variable {prog:Program}{w:World}{A:Around}{E:Value->Shared->Prop}{s:Shared}
theorem iq_ {S:Addr}{es:Array (Int×Value)}{ep:Nat}{t:SetTable}{Q:List Value->Shared->Prop} (hh:A.handled=none)
  (ho:s.heap.get? S=some {cls:= .type "set",dict:=none,data:= .set es ep t}) (b:Tb t es) (hs:es.size<=t.mask) (hl:t.led= !w.params.followText "set-order") (hp:t.plain=true)
  (hQ:∀h' tk vs,(∀b o,s.heap.get? b=some o->h'.get? b=some o)->s.heap.objs.size<=h'.objs.size->vs.Perm (es.toList.map (·.2))->Q vs {s with heap:=h',toks:=tk}):
  wpAny (model prog w) A (collect (.ref S)) Q E s:=by
 unfold collect;refine A0 (wpAny_runValue (Bo F.entry_proto_collect ?_));rw [Bk F.plain_proto_collect _];show wpAny _ A.in1 (newList []>>=fun l=>again (.builtin "list.__iadd__" ⟨[l, .ref S],[]⟩)) _ _ s;refine A0 (Aq ?_);refine A3 ⟨Cz F.plain_list_iadd _,Bo F.entry_list_iadd ?_⟩;rw [Bk F.plain_list_iadd _];show wpAny _ A.in1 (Builtin.List.listExtendWith (.ref s.heap.objs.size) (.ref S) (.ref s.heap.objs.size)) _ _ _;have hS:S<s.heap.objs.size:=AF ho;have ho1:(s.heap.push {cls:= .type "list",data:= .seq ([]:List Value).toArray}).get? S=some {cls:= .type "set",dict:=none,data:= .set es ep t}:=AB _ ho;have hT:Shared.TypeIs {s with heap:=s.heap.push {cls:= .type "list",data:= .seq ([]:List Value).toArray}} (.ref S) "set":=⟨_,ho1,rfl⟩;unfold Builtin.List.listExtendWith;refine A0 (D' hT ?_);have h1:Builtin.List.listSameRef (.ref s.heap.objs.size) (.ref S)=false:=by
  show(s.heap.objs.size==S)=false;exact beq_eq_false_iff_ne.mpr (C0 hS)
 have h2:(Value.type "set"==Value.type "list")=false:=by decide
 have h3:(Value.type "set"==Value.type "tuple")=false:=by decide
 simp only [h1,h2,h3,Bool.or_false,AJ,As];refine A0 (mR_ ho1 b hs hp ?_);refine A0 (An ?_);unfold Builtin.List.listLengthHint;generalize hH:s.heap.push {cls:= .type "list",data:= .seq ([]:List Value).toArray}=H at ho1 hT⊢;have hHs:H.objs.size=s.heap.objs.size+1:=by rw [<-hH,BU]
 have hT2:Shared.TypeIs {s with heap:=H.push {cls:= .type "set_iterator",data:= .fields #[.int (e7_ w t 0:Nat) 0, .int (0:Nat) 0, .ref S, .int es.size 0, .int ep 0]}} (.ref S) "set":=⟨_,AB _ ho1,rfl⟩;refine A0 (wpAny_specialOf hT2 F.slot_set_len.lookup ?_)
 wp_delta
 refine A0 (wpAny_isInstance (b:=true) hT2 (by rw [isSubtype_type];kernel_rfl) ?_);show wpAny _ A.in1 (typeOf (.ref S)>>=_) _ _ _;refine A0 (D' hT2 ?_);refine A3 ?_;rw [A9 (by decide)];refine A0 (DA ?_);unfold Builtin.List.listTouch;have hne:S≠H.objs.size:=by rw [hHs];exact AI (Ab hS)
 have hI0:fm_ (H.push {cls:= .type "set_iterator",data:= .fields #[.int (e7_ w t 0:Nat) 0, .int (0:Nat) 0, .ref S, .int es.size 0, .int ep 0]}) H.objs.size S (e7_ w t 0) 0 es.size ep:=⟨_,AH _ rfl,rfl,rfl⟩;have hL:(H.push {cls:= .type "set_iterator",data:= .fields #[.int (e7_ w t 0:Nat) 0, .int (0:Nat) 0, .ref S, .int es.size 0, .int ep 0]}).get? s.heap.objs.size=some (seqObj "list" #[] 0):=AB _ (hH▸AH _ rfl);have hS2:(H.push {cls:= .type "set_iterator",data:= .fields #[.int (e7_ w t 0:Nat) 0, .int (0:Nat) 0, .ref S, .int es.size 0, .int ep 0]}).get? S=some {cls:= .type "set",dict:=none,data:= .set es ep t}:=AB _ ho1;have hold:∀b o,s.heap.get? b=some o->(H.push {cls:= .type "set_iterator",data:= .fields #[.int (e7_ w t 0:Nat) 0, .int (0:Nat) 0, .ref S, .int es.size 0, .int ep 0]}).get? b=some o:=fun b o e=>AB _ (hH▸AB _ e);have hsz:(H.push {cls:= .type "set_iterator",data:= .fields #[.int (e7_ w t 0:Nat) 0, .int (0:Nat) 0, .ref S, .int es.size 0, .int ep 0]}).objs.size=s.heap.objs.size+2:=by rw [BU,hHs]
 generalize H.push {cls:= .type "set_iterator",data:= .fields #[.int (e7_ w t 0:Nat) 0, .int (0:Nat) 0, .ref S, .int es.size 0, .int ep 0]}=H1 at hI0 hL hS2 hold hsz⊢;refine A0 (A0 (CT (s:={s with heap:=H1}) hL rfl ?_ (AT _) (by decide)));have hL1:=CO hL (fun x=>x.push Value.none);have hu1:∀b,b≠s.heap.objs.size->(H1.update s.heap.objs.size (Obj.mapSeq fun x=>x.push Value.none)).get? b=H1.get? b:=(BE H1 s.heap.objs.size _).2;dsimp only;generalize H1.update s.heap.objs.size (Obj.mapSeq fun x=>x.push Value.none)=H2 at hL1 hu1⊢;refine CT (s:={s with heap:=H2}) hL1 rfl ?_ (by simp [B']) (by simp);have hL2:=CO hL1 (fun x=>x.pop);have hu2:∀b,b≠s.heap.objs.size->(H2.update s.heap.objs.size (Obj.mapSeq fun x=>x.pop)).get? b=H2.get? b:=(BE H2 s.heap.objs.size _).2;dsimp only;generalize H2.update s.heap.objs.size (Obj.mapSeq fun x=>x.pop)=H3 at hL2 hu2⊢;have hk3:∀b o,b≠s.heap.objs.size->H1.get? b=some o->H3.get? b=some o:=fun b o hb e=>by rw [hu2 b hb,hu1 b hb];exact e
 have hSf:s.heap.objs.size∉[H.objs.size,S]:=by
  rw [hHs];simp only [AN,BC,CC,not_or];exact⟨AI (Bc _),C0 hS⟩
 have hSn:S≠s.heap.objs.size:=AI hS;have hHn:H.objs.size≠s.heap.objs.size:=by rw [hHs];exact C0 (Bc _)
 refine A3 ⟨Cz F.plain_extend_loop _,codeAny_extend_loopS (mf_ (A:=A.in1) (ep:=ep) hh H.objs.size S hne b hs hl hp).toS ?_ _ hSf _ es.size 0 _ _ _ rfl (AT _) ⟨hI0.mv fun o e=>hk3 _ o hHn e,hk3 S _ hSn hS2⟩ hL2 (ItemsOf.nil _) fun s' acc' c' hm hS' hacc=> ?_⟩
 .have:es.size<=127:=by rcases b.mask with e|e|e<;>lia
  rw [B'];lia
 show wpAny _ A (load s.heap.objs.size>>=_) _ _ s';refine A0 (wpAny_load hS' ?_);obtain⟨h',g',d',tk',os'⟩:=s';have eg:g'=s.gens:=hm.gens;have ed:d'=s.drawn:=hm.drawn;have eo:os'=s.os:=hm.os;subst eg;subst ed;subst eo;refine A3 (hQ h' tk' acc'.toList (fun b o e=> ?_) (Az (AF hS')) ?_)
 .have hlt:=AF e;refine hm.heap b o (fun hb=> ?_) (hk3 b o (AI hlt) (hold b o e));simp only [AN,BC,CC] at hb;rcases hb with hb|hb
  .exact absurd hlt (by rw [hb];exact Bm _)
  .rw [hb,hHs] at hlt;exact absurd hlt (Nat.not_lt.mpr (Cn _))
 .have:acc'.toList=(me_ w S ep es).toList.map (·.2):=by
   apply List.ext_getElem?;intro i;rw [A6,Bu,Bu];rcases BP i es.size with c|c
   .have hi:i<acc'.size:=by rw [hacc.1];exact c
    obtain⟨e,he,hv⟩:=hacc.2 i _ (Ac hi);rw [Ac hi,hv,he];rfl
   .rw [BZ (by rw [hacc.1];exact c),BZ (by rw [hN_];exact c)];rfl
  rw [this];exact(kb_ w S ep es).map _
abbrev lsH (h:Heap) (vs:List Value):Heap:=h.push (seqObj "list" vs.toArray 0)
theorem g6_ (h:Heap) (vs:List Value):(lsH h vs).get? h.objs.size=some (seqObj "list" vs.toArray 0):=AH _ rfl
theorem ge_ {h:Heap}{vs:List Value}{b:Addr}{o:Obj} (hb:h.get? b=some o):(aS_ (lsH h vs) h.objs.size vs).get? b=some o:=by
 have hlt:b<h.objs.size:=AF hb;have n0:b≠h.objs.size:=AI hlt;have n1:b≠h.objs.size+1:=AI (Ab hlt);have n2:b≠h.objs.size+1+1:=AI (Ab (Ab hlt));rw [Ax _ _ _ (by rw [Bl,Aw,Bl];exact n2),Ax _ _ _ (by rw [Aw,Bl];exact n1),D9 _ _ _ _ n0,Ax _ _ _ n0];exact hb
theorem g5_ {h:Heap}{vs:List Value}{out:Array Value}{b:Addr}{o:Obj} (hb:h.get? b=some o):(sortedHeap (lsH h vs) h.objs.size vs out).get? b=some o:=by
 unfold sortedHeap;rw [D9 _ _ _ _ (AI (AF hb))];exact ge_ hb
theorem i3_ (h:Heap) (vs:List Value) (out:Array Value):∃e,(sortedHeap (lsH h vs) h.objs.size vs out).get? h.objs.size=some (seqObj "list" out e):=by
 obtain⟨e1,ho1⟩:∃e1,((lsH h vs).update h.objs.size (Obj.mapSeq fun _=>(#[]:Array Value))).get? h.objs.size=some (seqObj "list" #[] e1):=⟨_,CO (g6_ h vs) (fun _=> #[])⟩;have ho6:(aS_ (lsH h vs) h.objs.size vs).get? h.objs.size=some (seqObj "list" #[] e1):=by
  rw [Ax _ _ _ (by rw [Bl,Aw,Bl];exact AI (Ab (Bc _))),Ax _ _ _ (by rw [Aw,Bl];exact AI (Bc _))];exact ho1
 exact⟨_,CO ho6 (fun _=>out)⟩
theorem jI_ {v:Value}{Good:List Value->Shared->Prop}{Q:Value->Shared->Prop} (hcol:wpAny (model prog w) A.in1 (collect v) Good E s)
  (h:∀vs s1,Good vs s1->vs.length<64/\(vs.length<2->Q (.ref s1.heap.objs.size) {s1 with heap:=sortedHeap (lsH s1.heap vs) s1.heap.objs.size vs vs.toArray})/\
   (2<=vs.length->∃(c:Nat->Nat->Bool) (kd:SortKind),
    (∀(R:SortKind->Shared->Prop) (E:Value->Shared->Prop),R kd {s1 with heap:=aS_ (lsH s1.heap vs) s1.heap.objs.size vs}->wpAny (model prog w) A.in1.in1 (keyKind' vs.toArray) R E {s1 with heap:=aS_ (lsH s1.heap vs) s1.heap.objs.size vs})/\
    (∀i j,i<vs.length->j<vs.length->∀C:Bool->Shared->Prop,C (c i j) {s1 with heap:=aS_ (lsH s1.heap vs) s1.heap.objs.size vs}->wpAny (model prog w) A.in1.in1 (keyLt' kd (vs.getD i .none) (vs.getD j .none)) C (fun _ _=>False) {s1 with heap:=aS_ (lsH s1.heap vs) s1.heap.objs.size vs})/\
    ∀p,Ord vs.length p->p=cB_ c (kas_sort vs.length)->Q (.ref s1.heap.objs.size) {s1 with heap:=sortedHeap (lsH s1.heap vs) s1.heap.objs.size vs (p.map fun i=>vs.getD i .none)})):
  wpAny (model prog w) A (call (.builtin "sorted") [v]) Q E s:=by
 refine Calls.call_function_entry kind_sorted plain_sorted entry_sorted (args_sorted1 _) ?_;unfold Builtin.«sorted»;refine A0 (m:=checkCount "sorted" 1 1 _) (A3 ?_);refine A0 (thn hcol fun vs s1 g=> ?_);obtain⟨h64,few,many⟩:=h vs s1 g;refine A0 (Cy ?_ (by rw [B'];lia));show wpAny _ _ _ _ _ {s1 with heap:=lsH s1.heap vs};by_cases h2:vs.length<2
 .refine A0 (An (Ar slot_list_sort ⟨_,g6_ s1.heap vs,rfl⟩ entry_list_sort (iD_ (s:={s1 with heap:=lsH s1.heap vs}) (g6_ s1.heap vs) h2 ⟨_,rfl, ?_⟩) (args_list_sort _)));exact A3 ⟨_,rfl,few h2⟩
 .obtain⟨c,kd,hkd,hc,hq⟩:=many (by lia);refine A0 (An (Ar slot_list_sort ⟨_,g6_ s1.heap vs,rfl⟩ entry_list_sort (ku_ (c:=c) (s:={s1 with heap:=lsH s1.heap vs}) (g6_ s1.heap vs) (by lia) h64 (fun R=>hkd R _) hc fun p hp hpc=>⟨_,rfl, ?_⟩) (args_list_sort _)));exact A3 ⟨_,rfl,hq p hp hpc⟩
end
section
variable {X:Cx}{pins:List (Addr×Obj)}{σ:St}{H:Hp}{s:Shared}
theorem iA_:∀{xs:List Int}{vs:List Value},aV_ (xs.map V.int) vs->∀(prog:Program) (w:World),ItemsAre (intKind prog w) xs vs
 |[],_, .nil,_,_=> .nil
 |x::xs,_, .cons r1 r2,prog,w=>by
  obtain⟨t,rfl⟩:=r1;exact .cons (intKind_is prog w x t) (iA_ r2 prog w)
theorem kk_ (I:Inv X pins σ H s) {a:Addr}{xs:List Int} (h:SqT X.K H a (xs.map V.int)):IsTupleKey (intKind X.prog X.w) s.heap xs a:=by
 obtain⟨its,r,p,z⟩:=I.tuple h;obtain⟨o,ho,hc,n,hd⟩:=p;exact⟨o,_,n,ho,hc,hd,iA_ r _ _⟩
theorem qI_ {A:Around}{k:Nat} (hr:Room k A):A.units+8<cLine:=Br (Nat.add_le_add_left (by decide:8<=64) _) hr.units
theorem kt_ (I:Inv X pins σ H s) {rs:List V}{xss:List (List Int)}{m:Nat}{vs:List Value} (hi:Iss H (xss.map tI) rs) (r':aV_ rs vs) (hm:0<m) (hne':∀xs∈xss,xs.length=m) (hlen:xss.length<64) {Q:VK}
  (q:∀(yss:List (List Int)) (q:Addr) (H':Hp),yss.Perm xss->(∀i j,i<j->j<yss.length->ltI (yss.getD j []) (yss.getD i [])=false)->H q=none->ak_ H H'->Is H' (.l (yss.map tI)) (.ref q)->Q (.ref q) H') (A:Around):
  vs.length<64/\(vs.length<2->EP X pins σ Q (.ref s.heap.objs.size) {s with heap:=sortedHeap (lsH s.heap vs) s.heap.objs.size vs vs.toArray})/\
   (2<=vs.length->∃(c:Nat->Nat->Bool) (kd:SortKind),
    (∀(R:SortKind->Shared->Prop) (E:Value->Shared->Prop),R kd {s with heap:=aS_ (lsH s.heap vs) s.heap.objs.size vs}->wpAny (model X.prog X.w) A.in1.in1 (keyKind' vs.toArray) R E {s with heap:=aS_ (lsH s.heap vs) s.heap.objs.size vs})/\
    (∀i j,i<vs.length->j<vs.length->∀C:Bool->Shared->Prop,C (c i j) {s with heap:=aS_ (lsH s.heap vs) s.heap.objs.size vs}->wpAny (model X.prog X.w) A.in1.in1 (keyLt' kd (vs.getD i .none) (vs.getD j .none)) C (fun _ _=>False) {s with heap:=aS_ (lsH s.heap vs) s.heap.objs.size vs})/\
    ∀p,Ord vs.length p->p=cB_ c (kas_sort vs.length)->EP X pins σ Q (.ref s.heap.objs.size) {s with heap:=sortedHeap (lsH s.heap vs) s.heap.objs.size vs (p.map fun i=>vs.getD i .none)}):=by
 have hne:∀xs∈xss,xs≠[]:=fun xs hx z=>by have:=hne' xs hx;rw [z] at this;exact absurd this (by show¬0=m;lia)
 have hrs:rs.length=xss.length:=by rw [hi.length,A2]
 have ln:=r'.length;have lns:vs.length=xss.length:=by lia
 refine⟨by lia,fun h2=> ?_,fun h2=>⟨py_ xss,tuples' true,fun R E hR=> ?_,fun i j hi' hj' C hC=> ?_,fun p ho hpc=> ?_⟩⟩
 .obtain⟨e,he⟩:=i3_ s.heap vs vs.toArray;have fr:=I.hok.fresh (a:=s.heap.objs.size) (A5 _);exact⟨.ref s.heap.objs.size,_,I.laid (t':=s.toks) (fun _ _=>g5_) (A5 _) (show aQ_ X.prog X.w _ _ _ (.lst rs) from⟨by rw [B'];lia,vs,e,r',he⟩),rfl,q xss _ _ (List.Perm.refl _) (fun i j a b=>absurd b (by lia)) fr (ak_.new fr) (fg_ ae_ (hi.mono (ak_.new fr)))⟩
 .have I2:Inv X pins σ H {s with heap:=aS_ (lsH s.heap vs) s.heap.objs.size vs}:=I.kept (t':=s.toks) fun b o e=>ge_ e;obtain⟨fs,k1,k2,k3⟩:=je_ I2 hi r' hne;exact kat_kind (T:= .type "int") k1 (by lia) (fun f hf=>by obtain⟨z,t,rfl⟩:=k3 f hf;exact .now) rfl hR
 .have I2:Inv X pins σ H {s with heap:=aS_ (lsH s.heap vs) s.heap.objs.size vs}:=I.kept (t':=s.toks) fun b o e=>ge_ e;have g:∀i,i<xss.length->∃a,vs.getD i .none= .ref a/\SqT X.K H a ((xss.getD i []).map V.int):=fun i h=>by
   have hr:i<rs.length:=by lia
   obtain⟨d,hd,h1⟩:=hi.of_get (A1 hr);rw [A6,A1 h] at hd;cases hd;obtain⟨a,ea,ha⟩:=g0_ h1;obtain⟨u,hu1,ru⟩:=r'.get (A1 hr);rw [ea] at ru;obtain rfl:u=Value.ref a:=ru;refine⟨a, ?_, ?_⟩
   .rw [AD,hu1];rfl
   .rw [AD,A1 h];exact SqT.of ha
  obtain⟨a1,e1,s1⟩:=g i (by lia);obtain⟨a2,e2,s2⟩:=g j (by lia);rw [e1,e2];rw [k2_ (by lia) (by lia)] at hC;exact mO_ I2 s1 s2 hC
 .rw [lns] at ho hpc;have hpl:∀i∈p.toList,i<xss.length:=fun i hi=>ho.lt hi;obtain⟨e,he⟩:=i3_ s.heap vs (p.map fun i=>vs.getD i .none);have en:(p.map fun i=>vs.getD i .none)=List.toArray (p.toList.map fun i=>vs.getD i .none):=by
   apply Array.toList_inj.mp;simp
  rw [en] at he⊢;have fr:=I.hok.fresh (a:=s.heap.objs.size) (A5 _);refine⟨.ref s.heap.objs.size,_,I.laid (t':=s.toks) (fun _ _=>g5_) (A5 _) (show aQ_ X.prog X.w _ _ _ (.lst (p.toList.map fun i=>rs.getD i .non)) from⟨?_,_,e,em_ r' p.toList (fun i hi=>by rw [hrs];exact hpl i hi),he⟩),rfl,q (p.toList.map fun i=>xss.getD i []) _ _ ?_ ?_ fr (ak_.new fr) (fg_ ae_ ((jj_ hi p.toList hpl).mono (ak_.new fr)))⟩
  .rw [A2,Ay,B',ho.size];lia
  .have pp:=(D7.mp ho).map fun i=>xss.getD i [];rw [show(List.range xss.length).toArray.toList=List.range xss.length from rfl,mJ_] at pp;exact pp
  .intro i j hij hj;rw [A2,Ay,ho.size] at hj;have up:=lr_ (oA_ (xss:=xss) (m:=m) (by lia) hne') (n:=xss.length) (by lia) i j hij hj;rw [<-hpc] at up;have g:∀i,i<xss.length->(p.toList.map fun i=>xss.getD i []).getD i []=xss.getD (at0 p i) []/\at0 p i<xss.length:=fun i h=>by
    have hs:i<p.size:=by rw [ho.size];exact h
    have e:at0 p i=p[i]:=by simp [at0,Array.getD,hs]
    rw [e];refine⟨?_,ho.lt (by simp)⟩;rw [AD,A6];simp [hs]
   obtain⟨g1,g2⟩:=g i (by lia);obtain⟨g3,g4⟩:=g j hj;rw [g1,g3];rw [k2_ g4 g2] at up;exact up
theorem db_ {α β:Type}{f:β->α}{P:β->Prop}:∀(vs:List α),(∀v∈vs,∃j,P j/\v=f j)->∃js:List β,vs=js.map f/\∀j∈js,P j
 |[],_=>⟨[],rfl,fun _ h=>nomatch h⟩
 |v::vs,h=>by
  obtain⟨j,pj,e⟩:=h v (by simp);obtain⟨js,es,ps⟩:=db_ vs fun u hu=>h u (by simp [hu]);exact⟨j::js,by rw [e,es];rfl,fun i hi=>by rcases AN.mp hi with rfl|hi;exact pj;exact ps i hi⟩
theorem gG_ (ad:Nat->Addr):∀js:List Nat,aV_ (js.map fun j=>V.ref (ad j)) (js.map fun j=>Value.ref (ad j))
 |[]=> .nil
 |j::js=> .cons rfl (gG_ ad js)
theorem jg_ {H:Hp} (kk:Nat->List Int) (ad:Nat->Addr):∀js:List Nat,(∀j∈js,H (ad j)=some (.tup ((kk j).map V.int)))->Iss H ((js.map kk).map tI) (js.map fun j=>V.ref (ad j))
 |[],_=>ax_
 |j::js,h=>az_ (if_ (h j (by simp))) (jg_ kk ad js fun i hi=>h i (by simp [hi]))
theorem iE_ {prog:Program}{w:World}{h':Heap}{kk:Nat->List Int}{ad:Nat->Addr}{n:Nat}{es:Array (Int×Value)}{vs:List Value} (en:Ent prog w h' es) (mk:Made prog w kk ad n es)
  (hkey:∀j,j<n->IsTupleKey (intKind prog w) h' (kk j) (ad j)) (hp:vs.Perm (es.toList.map (·.2))):
  ∃js:List Nat,vs=js.map (fun j=>Value.ref (ad j))/\(∀j∈js,j<n)/\(js.map kk).Nodup/\∀j,j<n->kk j∈js.map kk:=by
 have vmem:∀v,v∈vs↔∃p g,es[p]? =some (g,v):=fun v=>by
  rw [hp.mem_iff,Aa];constructor
  .rintro⟨⟨g,v'⟩,he,rfl⟩;obtain⟨p,hp,e⟩:=Array.mem_iff_getElem.mp (Array.mem_toList_iff.mp he);exact⟨p,g,by rw [Ac hp,e]⟩
  .rintro⟨p,g,e⟩;have hp:=c2_ e;rw [Ac hp,Av] at e;exact⟨(g,v),by rw [<-e];simp,rfl⟩
 obtain⟨js,ev,pj⟩:=db_ (f:=fun j=>Value.ref (ad j)) (P:=fun j=>j<n/\∃p g,es[p]? =some (g,Value.ref (ad j))) vs fun v hv=>by
  obtain⟨p,g,e⟩:=(vmem v).mp hv;obtain⟨j,hj,e'⟩:=mk.from_ p _ e;simp only [Be] at e';obtain⟨_,rfl⟩:=e';exact⟨j,⟨hj,p,g,e⟩,rfl⟩
 have nd:vs.Nodup:=by
  rw [hp.nodup_iff];unfold List.Nodup;rw [Cb,CM];intro i j hi hj hij e;rw [Ay] at hi hj;obtain⟨k,b,e1,q1⟩:=en.ent i hi;obtain⟨k',b',e2,q2⟩:=en.ent j hj;have z1:es.toList[i].2=Value.ref b:=by
   rw [Ac hi,Av] at e1;simp [e1]
  have z2:es.toList[j].2=Value.ref b':=by
   rw [Ac hj,Av] at e2;simp [e2]
  rw [z1,z2,Bp] at e;subst e;have:=en.dis i j k b b _ _ e1 e2 q1 q1;lia
 refine⟨js,ev,fun j hj=>(pj j hj).1, ?_,fun j hj=> ?_⟩
 .rw [ev] at nd;unfold List.Nodup at nd⊢;rw [Cb] at nd⊢;refine List.Pairwise.imp_of_mem (fun{a b} ha hb hne e=>hne ?_) nd;obtain⟨la,p,g,ea⟩:=pj a ha;obtain⟨lb,p',g',eb⟩:=pj b hb;have:=en.dis p p' (kk a) _ _ _ _ ea eb (hkey a la) (by rw [e];exact hkey b lb);subst this;rw [ea] at eb;simp only [Av,Be] at eb;exact eb.2
 .obtain⟨p,j',hj',ek,e⟩:=mk.all j hj;have:=(vmem _).mpr ⟨p,_,e⟩;rw [ev] at this;obtain⟨i,hi,ei⟩:=Aa.mp this;simp only [Bp] at ei;have q1:=hkey i (pj i hi).1;rw [ei] at q1;have:=q1.inj (hkey j' hj');rw [<-ek,<-this];exact Cu hi
end
end L2
namespace L2
open PySem PySem.Spec PyProof.Rows PySem.W
section
variable {prog:Program}{w:World}{A:Around}{E:Value->Shared->Prop}{s:Shared}
theorem m3_ {d:Addr}{o:Obj}{es:Array DictEntry}{ep:Nat}{Q:Value->Shared->Prop} (hd:(d==sysModules)=false) (ho:s.heap.get? d=some o) (hc:o.ExactDict) (hdat:o.data= .dict es ep)
  (hQ:Q (.ref s.heap.objs.size) {s with heap:=s.heap.push {cls:= .type "dict_keyiterator",data:= .fields #[.ref d, .int 0 0, .int es.size 0, .int ep 0]}}):
  wpAny (model prog w) A (pyIter (.ref d)) Q E s:=by
 have hT:s.TypeIs (.ref d) "dict":=⟨o,ho,hc.1⟩;refine wpAny_pyIter_slot hT PySem.F.slot_dict_iter (Ar PySem.F.slot_dict_iter hT PySem.F.entry_dict_iter ?_ (PySem.F.args_dict_iter_1 _));unfold Builtin.«dict.__iter__»;refine A0 ?_;unfold Builtin.Dict.dictSlotNone;refine A0 (wpAny_notOrdered_dict hT ?_);show wpAny _ _ (pure (Value.ref d)) _ _ s;refine A3 ?_;show wpAny _ _ (Builtin.Dict.showsAll d>>=_) _ _ s;unfold Builtin.Dict.showsAll;rw [A7 (by rw [hd];exact AQ)];refine A0 (A3 ?_);refine A0 (CL ho hdat ?_);refine A0 (Ce ho hdat ?_);refine A0 (Aq (A3 ⟨_,rfl,"dict_keyiterator",_,⟨_,AH _ rfl,rfl⟩,BQ.lookup, ?_⟩));simpa [rawInt] using hQ
theorem m4_ {it d:Addr}{o:Obj}{es:Array DictEntry}{i ep:Nat}{e:DictEntry}{Q:Option Value->Shared->Prop} (hit:s.heap.IsKeyIter it d i es.size ep) (hod:s.heap.get? d=some o) (hdd:o.data= .dict es ep) (he:es[i]? =some e)
  (hQ:∀h',h'.IsKeyIter it d (i+1) es.size ep->Heap.SameBut it s.heap h'->Q (some e.key) {s with heap:=h'}):wpAny (model prog w) A (pyNext (.ref it)) Q E s:=by
 obtain⟨oi,ho,hc,hd⟩:=id hit;have hlt:i<es.size:=(Bt.mp he).1;unfold pyNext;refine A0 (CH (BK (name:=Str.ofString "__next__") hit.typeIs BQ (Ar BQ hit.typeIs PySem.F.entry_dict_keyiterator_next ?_ (PySem.F.args_dict_keyiterator_next_1 _))));refine A0 (A3 ?_);refine A0 ?_;refine A0 ?_;first|refine A0 (C5 hit.typeIs (A3 ?_));skip|refine A0 (CY hit.typeIs (A3 ?_));skip
 refine A0 (Ck ho hd ?_);have hown:Builtin.Dict_items.ownsTuple "dict_keyiterator"=false:=by decide
 simp only [hown,AJ,As];show wpAny _ _ (if(Value.ref d==Value.none)=true then _ else _) _ _ s;rw [A7 (show¬((Value.ref d==Value.none)=true) from AQ)];refine A0 (A3 ?_);refine A0 (CL hod hdd ?_);rw [A7 (by simp)];refine A0 (A3 ?_);refine A0 (Ce hod hdd ?_);rw [A7 (by simp)];refine A3 ?_;simp only [show¬((i:Int)<0) from by lia,As,AU,he];refine A0 ?_;first|refine A0 (C5 hit.typeIs (A3 ?_));skip|refine A0 (CY hit.typeIs (A3 ?_));skip
 refine A0 (wpAny_isOneOf_keyiter hit.typeIs ?_);show wpAny _ _ (setField (.ref it) 1 (rawInt ((i:Int)+1))>>=_) _ _ s;refine A0 (CN ho hd (by simp) ?_);have st':(s.heap.update it (Obj.mapFields (·.setIfInBounds 1 (rawInt ((i:Int)+1))))).IsKeyIter it d (i+1) es.size ep:=⟨_,CK _ ho (Obj.isFreed_of_fields (C8 hd _)),(Obj.cls_mapFields ..).trans hc,by rw [C8 hd];simp [rawInt]⟩;refine A0 (An ?_);refine A0 (wpAny_isOneOf_keyiter (s:={s with heap:=s.heap.update it (Obj.mapFields (·.setIfInBounds 1 (rawInt ((i:Int)+1))))}) st'.typeIs ?_);show wpAny _ _ (pure e.key) _ _ _;exact A3 (A3 ⟨_,rfl,A3 (hQ _ st' (BE ..))⟩)
theorem pd_ {it d:Addr}{o:Obj}{es:Array DictEntry}{i ep:Nat}{Q:Option Value->Shared->Prop} (hh:A.handled=none) (hit:s.heap.IsKeyIter it d i es.size ep) (hod:s.heap.get? d=some o) (hdd:o.data= .dict es ep) (he:es.size<=i)
  (hQ:∀h',Heap.ExtBut it s.heap h'->Q none {s with heap:=h'}):wpAny (model prog w) A (pyNext (.ref it)) Q E s:=by
 obtain⟨oi,ho,hc,hd⟩:=id hit;unfold pyNext;refine A0 (CH (BK (name:=Str.ofString "__next__") hit.typeIs BQ (Ar BQ hit.typeIs PySem.F.entry_dict_keyiterator_next ?_ (PySem.F.args_dict_keyiterator_next_1 _))));refine A0 (A3 ?_);refine A0 ?_;refine A0 ?_;first|refine A0 (C5 hit.typeIs (A3 ?_));skip|refine A0 (CY hit.typeIs (A3 ?_));skip
 refine A0 (Ck ho hd ?_);have hown:Builtin.Dict_items.ownsTuple "dict_keyiterator"=false:=by decide
 simp only [hown,AJ,As];show wpAny _ _ (if(Value.ref d==Value.none)=true then _ else _) _ _ s;rw [A7 (show¬((Value.ref d==Value.none)=true) from AQ)];refine A0 (A3 ?_);refine A0 (CL hod hdd ?_);rw [A7 (by simp)];refine A0 (A3 ?_);refine A0 (Ce hod hdd ?_);rw [A7 (by simp)];refine A3 ?_;simp only [show¬((i:Int)<0) from by lia,As,AU,BZ he];refine A0 ?_;first|refine A0 (C5 hit.typeIs (A3 ?_));skip|refine A0 (CY hit.typeIs (A3 ?_));skip
 show wpAny _ _ (setField (.ref it) 0 .none>>=_) _ _ s;refine A0 (CN ho hd (by simp) ?_);show wpAny _ _ (newExc (.type "StopIteration") []>>=_) _ _ _;refine A0 ?_;simp only [newExc,newTuple];refine A0 (Aq ?_ (by size_fits));refine A0 (m:=firstArgMember _ _) (wpAny_of_eq (a:=Value.none) (by first|rfl|(simp only [firstArgMember];rfl)) ?_);refine Aq ?_ (by size_fits);simp only [raiseNew];refine A0 (wpAny_handled ?_);rw [show A.in1.handled=none from hh];refine A0 (A3 (wpAny_throw ?_));refine A0 (wpAny_isInstance (T:="StopIteration") (b:=true) ⟨_,AH _ rfl,rfl⟩ isSubtype_stop ?_);exact A3 (hQ _ (((BE ..).extBut.push _).push _))
end
section
variable {prog:Program}{w:World}{A:Around}{E:Value->Shared->Prop}{s:Shared}
theorem pb_ {d:Addr}{o:Obj}{Q:Value->Shared->Prop} (hd:(d==sysModules)=false) (ho:s.heap.get? d=some o) (hc:o.ExactDict)
  (hQ:Q (.ref s.heap.objs.size) {s with heap:=s.heap.push {cls:= .type "dict_values",data:= .fields #[.ref d]}}):wpAny (model prog w) A (call (.builtin "dict.values") [.ref d]) Q E s:=by
 have hT:s.TypeIs (.ref d) "dict":=⟨o,ho,hc.1⟩;refine Ar PySem.F.slot_dict_values hT PySem.F.entry_dict_values ?_ (PySem.F.args_dict_values_1 _);refine A0 ?_;unfold Builtin.Dict.noArgs;refine A0 (wpAny_notOrdered_dict hT ?_);show wpAny _ _ (pure d) _ _ s;refine A3 ?_;show wpAny _ _ (Builtin.Dict.showsAll d>>=_) _ _ s;unfold Builtin.Dict.showsAll;rw [A7 (by rw [hd];exact AQ)];refine A0 (A3 ?_);exact A0 (Aq (A3 ⟨_,rfl,hQ⟩))
theorem o9_ {v d:Addr}{o:Obj}{es:Array DictEntry}{ep:Nat}{Q:Value->Shared->Prop} (hv:s.heap.IsValuesView v d) (ho:s.heap.get? d=some o) (hdat:o.data= .dict es ep)
  (hQ:Q (.ref s.heap.objs.size) {s with heap:=s.heap.push {cls:= .type "dict_valueiterator",data:= .fields #[.ref d, .int 0 0, .int es.size 0, .int ep 0]}}):
  wpAny (model prog w) A (pyIter (.ref v)) Q E s:=by
 obtain⟨ov,hov,hcv,hdv⟩:=id hv;refine wpAny_pyIter_slot hv.typeIs PySem.F.slot_dict_values_iter (Ar PySem.F.slot_dict_values_iter hv.typeIs PySem.F.entry_dict_values_iter ?_ (PySem.F.args_dict_values_iter_1 _));unfold Builtin.«dict_values.__iter__»;refine A0 (A3 ?_);refine A0 ?_;unfold Builtin.Dict_items.dictOf;refine A0 (wpAny_field hov hdv (x:= .ref d) rfl (A3 ?_));refine A0 ?_;unfold Builtin.Dict_items.newIterator;refine A0 (CL ho hdat ?_);refine A0 (Ce ho hdat ?_);have hown:Builtin.Dict_items.ownsTuple "dict_valueiterator"=false:=by decide
 simp only [hown,AJ,As];refine Aq (A3 ⟨_,rfl,"dict_valueiterator",_,⟨_,AH _ rfl,rfl⟩,BL.lookup, ?_⟩);simpa [rawInt] using hQ
theorem pa_ {it d:Addr}{o:Obj}{es:Array DictEntry}{i ep:Nat}{e:DictEntry}{Q:Option Value->Shared->Prop} (hit:s.heap.IsValIter it d i es.size ep) (hod:s.heap.get? d=some o) (hdd:o.data= .dict es ep) (he:es[i]? =some e)
  (hQ:∀h',h'.IsValIter it d (i+1) es.size ep->Heap.SameBut it s.heap h'->Q (some e.val) {s with heap:=h'}):wpAny (model prog w) A (pyNext (.ref it)) Q E s:=by
 obtain⟨oi,ho,hc,hd⟩:=id hit;have hlt:i<es.size:=(Bt.mp he).1;unfold pyNext;refine A0 (CH (BK (name:=Str.ofString "__next__") hit.typeIs BL (Ar BL hit.typeIs PySem.F.entry_dict_valueiterator_next ?_ (PySem.F.args_dict_valueiterator_next_1 _))));refine A0 (A3 ?_);refine A0 ?_;refine A0 ?_;first|refine A0 (C4 hit.typeIs (A3 ?_));skip|refine A0 (CW hit.typeIs (A3 ?_));skip
 refine A0 (Ck ho hd ?_);have hown:Builtin.Dict_items.ownsTuple "dict_valueiterator"=false:=by decide
 simp only [hown,AJ,As];show wpAny _ _ (if(Value.ref d==Value.none)=true then _ else _) _ _ s;rw [A7 (show¬((Value.ref d==Value.none)=true) from AQ)];refine A0 (A3 ?_);refine A0 (CL hod hdd ?_);rw [A7 (by simp)];refine A0 (A3 ?_);refine A0 (Ce hod hdd ?_);rw [A7 (by simp)];refine A3 ?_;simp only [show¬((i:Int)<0) from by lia,As,AU,he];refine A0 ?_;first|refine A0 (C4 hit.typeIs (A3 ?_));skip|refine A0 (CW hit.typeIs (A3 ?_));skip
 refine A0 (wpAny_isOneOf_valiter hit.typeIs ?_);show wpAny _ _ (setField (.ref it) 1 (rawInt ((i:Int)+1))>>=_) _ _ s;refine A0 (CN ho hd (by simp) ?_);have st':(s.heap.update it (Obj.mapFields (·.setIfInBounds 1 (rawInt ((i:Int)+1))))).IsValIter it d (i+1) es.size ep:=⟨_,CK _ ho (Obj.isFreed_of_fields (C8 hd _)),(Obj.cls_mapFields ..).trans hc,by rw [C8 hd];simp [rawInt]⟩;refine A0 (An ?_);refine A0 (wpAny_isOneOf_valiter (s:={s with heap:=s.heap.update it (Obj.mapFields (·.setIfInBounds 1 (rawInt ((i:Int)+1))))}) st'.typeIs ?_);refine A0 (wpAny_isOneOf_valiter (s:={s with heap:=s.heap.update it (Obj.mapFields (·.setIfInBounds 1 (rawInt ((i:Int)+1))))}) st'.typeIs ?_);show wpAny _ _ (pure e.val) _ _ _;exact A3 (A3 ⟨_,rfl,A3 (hQ _ st' (BE ..))⟩)
theorem qN_ {it d:Addr}{o:Obj}{es:Array DictEntry}{i ep:Nat}{Q:Option Value->Shared->Prop} (hh:A.handled=none) (hit:s.heap.IsValIter it d i es.size ep) (hod:s.heap.get? d=some o) (hdd:o.data= .dict es ep) (he:es.size<=i)
  (hQ:∀h',Heap.ExtBut it s.heap h'->Q none {s with heap:=h'}):wpAny (model prog w) A (pyNext (.ref it)) Q E s:=by
 obtain⟨oi,ho,hc,hd⟩:=id hit;unfold pyNext;refine A0 (CH (BK (name:=Str.ofString "__next__") hit.typeIs BL (Ar BL hit.typeIs PySem.F.entry_dict_valueiterator_next ?_ (PySem.F.args_dict_valueiterator_next_1 _))));refine A0 (A3 ?_);refine A0 ?_;refine A0 ?_;first|refine A0 (C4 hit.typeIs (A3 ?_));skip|refine A0 (CW hit.typeIs (A3 ?_));skip
 refine A0 (Ck ho hd ?_);have hown:Builtin.Dict_items.ownsTuple "dict_valueiterator"=false:=by decide
 simp only [hown,AJ,As];show wpAny _ _ (if(Value.ref d==Value.none)=true then _ else _) _ _ s;rw [A7 (show¬((Value.ref d==Value.none)=true) from AQ)];refine A0 (A3 ?_);refine A0 (CL hod hdd ?_);rw [A7 (by simp)];refine A0 (A3 ?_);refine A0 (Ce hod hdd ?_);rw [A7 (by simp)];refine A3 ?_;simp only [show¬((i:Int)<0) from by lia,As,AU,BZ he];refine A0 ?_;first|refine A0 (C4 hit.typeIs (A3 ?_));skip|refine A0 (CW hit.typeIs (A3 ?_));skip
 show wpAny _ _ (setField (.ref it) 0 .none>>=_) _ _ s;refine A0 (CN ho hd (by simp) ?_);show wpAny _ _ (newExc (.type "StopIteration") []>>=_) _ _ _;refine A0 ?_;simp only [newExc,newTuple];refine A0 (Aq ?_ (by size_fits));refine A0 (m:=firstArgMember _ _) (wpAny_of_eq (a:=Value.none) (by first|rfl|(simp only [firstArgMember];rfl)) ?_);refine Aq ?_ (by size_fits);simp only [raiseNew];refine A0 (wpAny_handled ?_);rw [show A.in1.handled=none from hh];refine A0 (A3 (wpAny_throw ?_));refine A0 (wpAny_isInstance (T:="StopIteration") (b:=true) ⟨_,AH _ rfl,rfl⟩ isSubtype_stop ?_);exact A3 (hQ _ (((BE ..).extBut.push _).push _))
theorem kc_ (hh:A.handled=none) (I d:Addr) (hne:d≠I) {o:Obj}{es:Array DictEntry}{ep:Nat} (hdat:o.data= .dict es ep):
  Walks prog w A I [I,d] [I] es.size (fun i v=>∃e,es[i]? =some e/\v=e.val) (fun i h=>h.IsValIter I d i es.size ep/\h.get? d=some o) where
 sub:=fun b hb=>by simp at hb;simp [hb]
 frame:=fun _ _ _ st hk=>⟨st.1.at fun o e=>hk I (by simp) o e,hk d (by simp) _ st.2⟩
 item:=fun i s Q E hi st hQ=>pa_ st.1 st.2 hdat (Ac hi) fun h' hit' hs'=>hQ _ h' s.toks ⟨_,Ac hi,rfl⟩ ⟨hit',hs'.extBut d _ hne st.2⟩ fun b o hb e=>hs'.extBut b o (fun h=>hb (by simp [h])) e
 done:=fun s Q E st hQ=>qN_ hh st.1 st.2 hdat (A5 _) fun h' he'=>hQ h' s.toks fun b o hb e=>he' b o (fun h=>hb (by simp [h])) e
 self:=fun _ _ _ _ st hQ=>wpAny_pyIter_valiter st.1 hQ
theorem kP_ (ns:List Int):∀k,k<=ns.length->preSum (fun i=>ns.getD i 0) k=(ns.take k).sum
 |0,_=>by simp [preSum]
 |k+1,h=>by
  have hk:k<ns.length:=by lia
  have g:ns.getD k 0=ns[k]:=by simp [List.getD,hk]
  rw [preSum,kP_ ns k (by lia),AM,A1 hk,List.sum_append];show _+ns.getD k 0=_+[ns[k]].sum;rw [g];simp
end
theorem dH_ {α β:Type}{R:α->β->Prop}:∀{xs:List α}{ys:List β}{i:Nat}{x:α},Paired R xs ys->xs[i]? =some x->∃y,ys[i]? =some y/\R x y
 |_,_,i,x, .nil,h=>by simp at h
 |_,_,0,x, .cons r _,h=>by simp at h;subst h;exact⟨_,rfl,r⟩
 |_,_,i+1,x, .cons _ t,h=>by simp at h;obtain⟨y,e,r⟩:=dH_ t h;exact⟨y,by simpa using e,r⟩
def Itk (d:Addr) (o:Obj) (kvs:List (List Key×V)):It:=
 ⟨fun i H=>H d=some (.frz o (.dT kvs))/\i<kvs.length,fun i H x H'=>H'=H/\∃b k v,x= .ref b/\kvs[i]? =some (k,v)/\H b=some (.tup (k.map kV)),fun i H=>H d=some (.frz o (.dT kvs))/\kvs.length<=i⟩
def r0_ (td:TE):TI:=fun σ H R=>td σ H fun x H1=>∃(d:Addr) (kvs:List (List Key×V)),x= .ref d/\Rd H1 d (.dT kvs)/\∀(o:Obj) (H2:Hp),H2 d=some (.frz o (.dT kvs))->(∀b,b≠d->H2 b=H1 b)->R (Itk d o kvs) H2
theorem kj_ {P:Program}{w:World}{K:W.Frag}{tg:Expr} (d it:Addr) (o:Obj) (kvs:List (List Key×V)) (ep:Nat) (hep:∀es' ep',o.data= .dict es' ep'->ep'=ep):Turn P w K tg (Itk d o kvs) [it] it (fun i h=>h.IsKeyIter it d i kvs.length ep) where
 mem:=by simp
 obj:=fun i h st b hb=>by
  have e:b=it:=by simpa using hb
  subst e;obtain⟨o,e,c,d⟩:=st;exact⟨o,e,fun v z=>by rw [d] at z;cases z⟩
 keep:=fun i h h' st k=>st.at fun o e=>k it (by simp) o e
 item:=by
  intro X hP hw hK hc i pins s σ H E I hf st hg;subst hP hw hK;obtain⟨hq,hi⟩:=hg;obtain⟨ho,z,y,xs,rel,o',es,ep',h1,h2,h3,h4,h5⟩:=(show aQ_ X.prog X.w H s.heap d (.frz o (.dT kvs)) from I.hok d _ hq);obtain rfl:o=o':=Ap (ho.symm.trans h1);obtain rfl:ep'=ep:=hep _ _ h3;have hx:kvs[i]? =some kvs[i]:=A1 hi;obtain⟨q,hq1,e1,e2,e3⟩:=dH_ rel hx;have hsz:es.size=kvs.length:=by rw [<-Ay,h4,A2,<-Bz rel]
  have he:es[i]? =some (entryOfKey (tupleKind (bb_ X.prog X.w)) q):=by rw [<-Bu,h4,A6,hq1];rfl
  obtain⟨f0,f1,f2,f3,f4,f5⟩:=hf it (by simp);rw [<-hsz] at st;refine m4_ st ho h3 he fun h' st' sb=> ?_;have I1:Inv X pins σ H {s with heap:=h'}:=I.turned (t':=s.toks) (fun b o hb e=>(sb.2 b hb).trans e) f0 f1 f3 f4 f5;obtain⟨oo,e,c,d'⟩:=id st';rw [hsz] at st';exact⟨_,rfl,go_of (s:={s with heap:=h'}) e c d' (by decide) ⟨.ref q.2.1,H,I1,rfl,⟨rfl,q.2.1,kvs[i].1,kvs[i].2,rfl,hx,e2⟩,st',fun b hb=>(hf b hb).1⟩⟩
 done:=by
  intro X hP hw hK hc i pins s σ H E I hf st hg;subst hP hw hK;obtain⟨hq,hi⟩:=hg;obtain⟨ho,z,y,xs,rel,o',es,ep',h1,h2,h3,h4,h5⟩:=(show aQ_ X.prog X.w H s.heap d (.frz o (.dT kvs)) from I.hok d _ hq);obtain rfl:o=o':=Ap (ho.symm.trans h1);obtain rfl:ep'=ep:=hep _ _ h3;have hsz:es.size=kvs.length:=by rw [<-Ay,h4,A2,<-Bz rel]
  obtain⟨f0,f1,f2,f3,f4,f5⟩:=hf it (by simp);rw [<-hsz] at st;exact pd_ (I.ok.hd hc) st ho h3 (by lia) fun h' eb=>⟨rfl,I.turned (t':=s.toks) (fun b o hb e=>eb b o hb e) f0 f1 f3 f4 f5⟩
 self:=fun _ _ _ _ _ st h=>wpAny_pyIter_keyiter st h
section
variable {X:Cx}{tg:Expr}
theorem pc_ {P:Program}{w:World}{H H':Hp}{h:Heap}{d:Addr}{kvs:List (List Key×V)} (q:aQ_ P w H h d (.dT kvs)) (k:∀b ys,H b=some (.tup ys)->H' b=some (.tup ys)):aQ_ P w H' h d (.dT kvs):=by
 obtain⟨z,y,xs,rel,r⟩:=q;exact⟨z,y,xs,KT.keeps rel fun c ys ec=>k c ys ec,r⟩
theorem ow_ {l:Expr}{tl:TE} (hl:PE X l tl):PI X tg l (r0_ tl):=by
 intro pins s σ H R I h;refine thn (hl pins s σ H _ I h) fun v s1 ⟨x,H1,I1,r1,q1⟩=> ?_;obtain⟨d,kvs,rfl,hq,q⟩:=q1;cases r1;have hob:aQ_ X.prog X.w H1 s1.heap d (.dT kvs):=mv_ I1.hok hq;obtain⟨z,y,xs,rel,o,es,ep,h1,h2,h3,h4,h5⟩:=id hob;have hsz:es.size=kvs.length:=by rw [<-Ay,h4,A2,<-Bz rel]
 obtain⟨H2,I2,e2,k2⟩:∃H2,Inv X pins σ H2 s1/\H2 d=some (.frz o (.dT kvs))/\∀b,b≠d->H2 b=H1 b:=by
  rcases hq with hq|⟨o',hq⟩
  .exact⟨_,gu_ (t':=s1.toks) I1 (by rw [hq];exact True.intro) (Heap.SameBut.refl _ _) ⟨o,h1⟩ (show aQ_ X.prog X.w (upd H1 d (.frz o (.dT kvs))) s1.heap d (.frz o (.dT kvs)) from⟨h1,pc_ hob fun b ys e=>by rw [aj_ (mH_ e hq (fun z=>nomatch z))];exact e⟩),ae_,fun b hb=>aj_ hb⟩
  .obtain⟨ho',_⟩:=(show aQ_ X.prog X.w H1 s1.heap d (.frz o' (.dT kvs)) from I1.hok d _ hq);obtain rfl:o'=o:=Ap (ho'.symm.trans h1);exact⟨H1,I1,hq,fun _ _=>rfl⟩
 refine m3_ y h1 h2 h3 ?_;rw [hsz];refine⟨s1.heap.objs.size,[s1.heap.objs.size],_,_,_,rfl,I2.kept (t':=s1.toks) fun b o e=>AB _ e,kj_ d _ o kvs ep (fun es' ep' e=>by rw [h3] at e;cases e;rfl),⟨_,AH _ rfl,rfl,rfl⟩,fun b hb=> ?_,q o H2 e2 k2⟩;have e:b=s1.heap.objs.size:=by simpa using hb
 subst e;exact I2.fpOk (A5 _) (I2.hok.fresh (A5 _))
theorem mZ_ {d:Addr}{o:Obj}{kvs:List (List Key×V)}{g:TG}{tb:TS}{D:Ends}{σ:St}{H:Hp} (Pv:Nat->St->Hp->Prop) (h0:Pv 0 σ H) (hl:∀i σ H,i<=kvs.length->Pv i σ H->H d=some (.frz o (.dT kvs)))
  (hs:∀i k v b σ H,kvs[i]? =some (k,v)->Pv i σ H->H b=some (.tup (k.map kV))->g (.ref b) σ H fun σ2 H2=>tb {D with nx:=Pv (i+1),ct:=Pv (i+1),bk:=D.nx} σ2 H2) (hd:∀σ H,Pv kvs.length σ H->D.nx σ H):
  ∃Wq:Nat->Nat->St->Hp->Prop,(∃m,Wq 0 m σ H)/\∀i m σ H,Wq i m σ H->
   ((Itk d o kvs).stop i H/\D.nx σ H)\/((Itk d o kvs).go i H/\∃N:St->Hp->Prop,(∀σ' H',N σ' H'->∃m',m'<m/\Wq (i+1) m' σ' H')/\∀x H',(Itk d o kvs).yld i H x H'->g x σ H' fun σ2 H2=>tb {D with nx:=N,ct:=N,bk:=D.nx} σ2 H2):=by
 refine⟨fun i m σ H=>m=kvs.length-i/\i<=kvs.length/\Pv i σ H,⟨kvs.length,by simp,AT _,h0⟩, ?_⟩;rintro i m σ H ⟨rfl,hi,p⟩;have q:=hl i σ H hi p;by_cases hlt:i<kvs.length
 .refine .inr ⟨⟨q,hlt⟩,Pv (i+1),fun σ' H' p'=>⟨kvs.length-(i+1),by lia,rfl,hlt,p'⟩, ?_⟩;rintro x H' ⟨rfl,b,k,v,rfl,e,hb⟩;exact hs i k v b σ _ e p hb
 .obtain rfl:i=kvs.length:=by lia
  exact .inl ⟨⟨q,A5 _⟩,hd σ H p⟩
def pN_ (tk tv:TE):TE:=fun σ H Q=>∀p,H p=none->tk σ (upd H p (.dT [])) fun x H1=>tv σ H1 fun y H2=>H2 p=some (.dT [])/\∃k b,x= .ref b/\H2 b=some (.tup (k.map kV))/\Q (.ref p) (upd H2 p (.dT (gR_ [] k y)))
theorem mA_ {ek ev:Expr}{tk tv:TE}{pos:Pos} (hu:X.A.units+1<cLine) (hk:PE X ek tk) (hv:PE X ev tv):PE X (.Dict [some ek] [ev] pos) (pN_ tk tv):=by
 intro pins s σ H Q I q;have hn:=I.hok.fresh (A5 s.heap.objs.size);have I1:=I.laid (a:=s.heap.objs.size) (o:= .dT []) (h':=s.heap.push {cls:= .type "dict",data:= .dict #[]}) (t':=s.toks) (fun _ _ q=>AB _ q) (A5 _) (js_ s.heap I.big);rw [arm_eval_Dict,zip_pairTrees [some ek] [ev] X.env pos rfl rfl,dictDisplay_pairs (pairTrees [some ek] [ev] X.env pos) (by intro z;cases z) (show 1<17 by decide)];refine A0 (wpAny_standAt (A0 ?_));unfold subDict;refine A0 (wpAny_alloc ?_);refine A0 (An ?_);rw [A9 (show(pairTrees [some ek] [ev] X.env pos).length<=15 from(by decide:1<=15))];refine A0 (pairTrees_cons_walk (thn (hk pins _ σ _ _ I1 (q _ hn)) fun u s1 ⟨x,H1,I2,rx,q1⟩=>thn (hv pins s1 σ H1 _ I2 q1) fun w2 s2 ⟨y,H2,I3,ry,e,k,b,ex,eb,q2⟩=>pairTrees_nil_walk ?_));subst ex;cases (show u=Value.ref b from rx);obtain⟨z,hd,xs,rel,dd⟩:=qO_ I3.hok e;cases rel;refine wpAny_holding (wpAny_bind ?_);rw [List.forIn_cons];dsimp only;refine A0 (A0 (wpAny_dictSet_heap (knd:=tupleKind (bb_ X.prog X.w)) (show X.A.units<cLine by lia) (fA_ I3.hok eb) dd (fun h' dd' hs=>A3 ?_) (AT _)));dsimp only;rw [List.forIn_nil];refine wpAny_pure (wpAny_pure (wpAny_pure (wpAny_pure ?_)));obtain⟨o,es,ep,hq,h2,h3,h4,_,h5⟩:=dd';refine⟨.ref s.heap.objs.size,_,gu_ I3 (by rw [e];exact True.intro) hs ⟨o,hq⟩ (show aQ_ X.prog X.w (upd H2 s.heap.objs.size (.dT (gR_ [] k y))) h' s.heap.objs.size (.dT (gR_ [] k y)) from⟨(by show 1<=sizeLine;decide),hd,_,KT.keeps (KT.put .nil k eb ry) fun c ys ec=> ?_,o,es,ep,hq,h2,h3,h4,h5⟩),rfl,q2⟩;rw [aj_ (mH_ ec e (fun z=>nomatch z))];exact ec
def rd_ (td:TE):TE:=fun σ H Q=>td σ H fun x H1=>∃(d:Addr) (kvs:List (List Key×V)) (ns:List Int),x= .ref d/\Rd H1 d (.dT kvs)/\kvs.map (·.2)=ns.map V.int/\Q (.int ns.sum) H1
theorem ox_ {e:Expr}{td:TE}{p apos cpos pos:Pos} (hc:X.calm=true) (hg:Gl X "sum") (hm:X.mg "sum"=none) (he:PE X e td)
  (he2:starEach [Expr.Call (.Attribute e "values" apos) [] [] cpos] X.env=(false,eval (Expr.Call (.Attribute e "values" apos) [] [] cpos) X.env)::starEach [] X.env:=by rfl)
  (hbase:attributeBase e "values" X.env (eval e X.env)=eval e X.env:=by rfl) (hline:(apos.endLine==cpos.line)=true:=by rfl):
  PE X (.Call (.Name "sum" p) [.Call (.Attribute e "values" apos) [] [] cpos] [] pos) (rd_ td):=by
 intro pins s σ H Q I h;refine BV (cI_ I hg hm (by first|exact boot_sum|rfl|ac_nf) ?_ (by decide) (by decide));refine Ci ?_ he2 (by rfl);rw [he2];show wpAny _ _ (spliced ((false,eval (Expr.Call (.Attribute e "values" apos) [] [] cpos) X.env)::backTo pos (starEach [] X.env))) _ _ s;refine Cf ?_;refine wpAny_Call_method0_late hbase hline (thn (he pins s σ H _ I h) fun v s1 ⟨x,H1,I1,r1,q1⟩=> ?_);obtain⟨d,kvs,ns,rfl,hrd,hns,q⟩:=q1;cases r1;obtain⟨hT,hdi,hsys⟩:=nE_ I1 (.inr ⟨kvs,hrd⟩);obtain⟨z,y,xs,rel,o,es,ep,h1,h2,h3,h4,h5⟩:=(show aQ_ X.prog X.w H1 s1.heap d (.dT kvs) from mv_ I1.hok hrd);refine⟨"dict","dict.values",PySem.F.plainAttrs_dict,PySem.F.slot_dict_values,PySem.F.type_dict_values,hT,hdi,Cq rfl (PySem.evalArgs_none (pb_ hsys h1 h2 (A3 ?_)))⟩;show wpAny _ _ (call (.builtin "sum") [.ref s1.heap.objs.size]) _ _ _;have h1':(s1.heap.push {cls:= .type "dict_values",data:= .fields #[.ref d]}).get? d=some o:=AB _ h1;have hdl:d<s1.heap.objs.size:=AF h1;have hsz:es.size=kvs.length:=by rw [<-Ay,h4,A2,<-Bz rel]
 have hnl:ns.length=kvs.length:=by have:=BW List.length hns;simpa using this.symm
 refine call_sum_walkAnyS (o9_ (s:={s1 with heap:=s1.heap.push {cls:= .type "dict_values",data:= .fields #[.ref d]}}) ⟨_,AH _ rfl,rfl,rfl⟩ h1' h3 ?_);refine⟨_,_,_,_,_,_,_,fun i=>ns.getD i 0,rfl,(kc_ (A:=X.A.in1) (I.ok.hd hc) (s1.heap.push {cls:= .type "dict_values",data:= .fields #[.ref d]}).objs.size d (by rw [BU];exact AI (Ab hdl)) h3).toS,⟨⟨_,AH _ rfl,rfl,rfl⟩,AB _ h1'⟩, ?_, ?_, ?_⟩
 .intro b hb;simp only [AN,BC,CC] at hb;rcases hb with rfl|rfl
  .show _<(Heap.push (s1.heap.push _) _).objs.size;rw [BU (s1.heap.push _)];exact Bc _
  .show _<(Heap.push (s1.heap.push _) _).objs.size;rw [BU,BU];exact Ab (Ab hdl)
 .rintro i v ⟨e,hei,rfl⟩;rw [<-Bu,h4,A6] at hei;obtain⟨q',hq',rfl⟩:=A4.mp hei;have hi:i<kvs.length:=by rw [Bz rel];exact(AC.mp hq').1
  obtain⟨q2,hq2,e1,e2,e3⟩:=dH_ rel (A1 hi);rw [hq'] at hq2;cases hq2;have:kvs[i].2=V.int (ns.getD i 0):=by
   have z1:(kvs.map (·.2))[i]? =some kvs[i].2:=by rw [A6,A1 hi];rfl
   rw [hns,A6,A1 (by lia)] at z1;simp only [Option.map_some,Av] at z1;rw [<-z1,AD,A1 (by lia)];rfl
  rw [this] at e3;exact e3
 .intro s' t' hm';obtain⟨h',g',d',tk',os'⟩:=s';have eg:g'=s1.gens:=hm'.gens;have ed:d'=s1.drawn:=hm'.drawn;have eo:os'=s1.os:=hm'.os;subst eg;subst ed;subst eo;have es:preSum (fun i=>ns.getD i 0) es.size=ns.sum:=by rw [hsz,<-hnl,kP_ ns ns.length (A5 _),AZ]
  rw [es];refine⟨.int ns.sum,H1,I1.kept fun b o e=>hm'.heap b o (fun hb=> ?_) (AB _ (AB _ e)),⟨t',rfl⟩,q⟩;simp only [AN,BC,CC] at hb;have:=AF e;rw [hb,BU] at this;exact absurd this (Nat.not_lt.mpr (Cn _))
end
end L2
namespace L2
open PySem PySem.Spec PyProof.Rows
section
variable {X:Cx}
theorem k5_:OpR X (binaryOp .Add) (fun x y H Q=>∃xs ys,Is H (.t xs) x/\Is H (.t ys) y/\xs.length+ys.length<=sizeLine/\∀v H2,ak_ H H2->Is H2 (.t (xs++ys)) v->Q v H2):=by
 intro pins s σ H x y v u Q I rx ry h;obtain⟨xs,ys,hx,hy,hz,q⟩:=h;obtain⟨a,vs,rfl,ha,ra⟩:=l9_ hx;obtain⟨b,ws,rfl,hb,rb⟩:=l9_ hy;have l1:=ra.length;have l2:=rb.length;by_cases h1:vs=[]
 .subst h1;have hx0:xs=[]:=BD.mp (by rw [<-l1];rfl);subst hx0;cases rx;cases ry;obtain⟨its,r1,p1,_⟩:=I.tuple (SqT.of (K:=X.K) ha);obtain⟨its2,r2,p2,_⟩:=I.tuple (SqT.of (K:=X.K) hb);cases r1;obtain⟨⟨cls,dd,data,sl⟩,ho,hc,n,hd⟩:=p1;obtain⟨⟨cls2,dd2,data2,sl2⟩,ho2,hc2,n2,hd2⟩:=p2;simp only at hc hd hc2 hd2;subst hc hd hc2 hd2;exact concat_meets ⟨_,ho,rfl⟩ ⟨_,ho2,rfl⟩ noFill_tuple_add seq_tuple_add PySem.F.slot_tuple_add PySem.F.entry_tuple_add (PySem.F.args_tuple_add_2 _ _) (tuple_addW0 a b _ _ n n2 dd dd2 sl sl2 (by simp)) ⟨ho,ho2,⟨.ref b,H,I,rfl,q _ H (ak_.refl H) hy⟩⟩
 .refine oB_ pins s σ H (.ref a) (.ref b) v u Q I rx ry ⟨a,b,vs,ws,rfl,rfl,SqT.of ha,SqT.of hb,h1,by lia,fun e=> ?_,fun _ p np=> ?_⟩
  .have:ys=[]:=BD.mp (by rw [<-l2,e];rfl);subst this;exact q _ H (ak_.refl H) (by rw [C1];exact hx)
  .exact q _ _ (ak_.new np) (nD_ ae_ ((ra.append rb).mono (ak_.new np)))
theorem kx_:SlR X (fun x lo hi H Q=>∃xs xs',Is H (.t xs) x/\(∀(H':Hp) (vs:List V),Iss H' xs vs->Iss H' xs' (hJ_ vs lo hi))/\(∀vs:List V,vs.length=xs.length->(HT.sIx vs.length 0 lo=0/\HT.sIx vs.length vs.length hi=vs.length)->xs'=xs)/\∀v H2,ak_ H H2->Is H2 (.t xs') v->Q v H2):=by
 intro pins s σ H x v vl vu lo hi sl Q I rx hs pl pu h;obtain⟨xs,xs',hx,hc,hw,q⟩:=h;obtain⟨a,vs,rfl,ha,ra⟩:=l9_ hx;refine oo_ pins s σ H (.ref a) v vl vu lo hi sl Q I rx hs pl pu ⟨a,vs,rfl,SqT.of ha,fun e=> ?_,fun e p np=> ?_⟩
 .have:=hw vs ra.length e;subst this;exact q _ H (ak_.refl H) hx
 .exact q _ _ (ak_.new np) (nD_ ae_ ((hc _ _ ra).mono (ak_.new np)))
end
def LTS (H H':Hp):Prop:=(∀b xs,H b=some (.lst xs)->H' b=some (.lst xs))/\∀b xs,H b=some (.tup xs)->H' b=some (.tup xs)
theorem LTS.dict {H:Hp}{d:Addr}{kvs:List (List Key×V)}{o:HO} (h:H d=some (.dT kvs)):LTS H (upd H d o):=
 ⟨fun b xs e=>by rw [aj_ (by rintro rfl;rw [h] at e;cases e)];exact e,fun b xs e=>by rw [aj_ (by rintro rfl;rw [h] at e;cases e)];exact e⟩
theorem LTS.rd {H H':Hp}{d:Addr}{kvs:List (List Key×V)} (h:Rd H d (.dT kvs)) (k:∀b,b≠d->H' b=H b):LTS H H':=by
 have nd:∀b o,H b=some o->(∀kvs,o≠ .dT kvs)->(∀ob u,o≠ .frz ob u)->b≠d:=by
  rintro b o e n1 n2 rfl;rcases h with h|⟨ob,h⟩
  .rw [h] at e;cases e;exact n1 _ rfl
  .rw [h] at e;cases e;exact n2 _ _ rfl
 exact⟨fun b xs e=>by rw [k b (nd b _ e (fun _ z=>nomatch z) fun _ _ z=>nomatch z)];exact e,fun b xs e=>by rw [k b (nd b _ e (fun _ z=>nomatch z) fun _ _ z=>nomatch z)];exact e⟩
mutual
theorem Is.lts {H H':Hp} (s:LTS H H'):∀{d:D}{v:V},Is H d v->Is H' d v
 | .i _,_,h=>by rw [ee_ h];exact pA_
 | .l xs,_,h=>by
  obtain⟨a,vs,e,q,r⟩:=dd_ h;rw [e];exact fg_ (s.1 _ _ q) (Iss.lts s r)
 | .t xs,_,h=>by
  obtain⟨a,vs,e,q,r⟩:=l9_ h;rw [e];exact nD_ (s.2 _ _ q) (Iss.lts s r)
theorem Iss.lts {H H':Hp} (s:LTS H H'):∀{xs:List D}{vs:List V},Iss H xs vs->Iss H' xs vs
 |[],_,h=>by rw [cm_ h];exact ax_
 |x::xs,_,h=>by
  obtain⟨u,us,e,q,r⟩:=ba_ h;rw [e];exact az_ (Is.lts s q) (Iss.lts s r)
end
end L2
namespace L2
open PySem PySem.Spec PyProof.Rows PySem.W
section
variable {X:Cx}{pins:List (Addr×Obj)}{σ:St}{H:Hp}{s:Shared}
end
section
variable {X:Cx}{k:Nat}{f:Addr}{fd:FuncData}{ps:List Str}{sp:Sp}{dvs:List V}{ds:List Value}{x:Str}{p pos pos':Pos}{e:Expr}{es:List Expr}{t:TA}
end
end L2
namespace L2
open PySem PyProof.Rows
def lL_:Bool->Keyed->Array Keyed->Nat->Nat->Nat->StateT SortSt Sem (Option Nat):=sortPriv%PySem.Builtin.gallop
def jP_:Array Keyed->Array Keyed->StateT SortSt Sem (Array Keyed):=sortPriv%PySem.Builtin.mergeLo
def cc_ {γ:Type} (step:γ->Option (Bool×γ)):Nat->γ->Option γ
 |0,g=>some g
 |f+1,g=>(step g).bind fun r=>if r.1=true then some r.2 else cc_ step f r.2
section
variable {M:Model}{A:Around}{E:Value->Shared->Prop}{s:Shared}{σ:Type}
theorem aC_ {β γ:Type}{step:γ->Option (Bool×γ)} (φ:γ->β) (τ:γ->σ) {f:Nat->β->StateT σ Sem (ForInStep β)}{Q:β->σ->Prop}
  (hs:∀x g r,step g=some r->∀R:ForInStep β->σ->Prop,R (if r.1=true then .done (φ r.2) else .yield (φ r.2)) (τ r.2)->wpS M A E s (f x (φ g)) R (τ g))
  {a b:Nat}{g g':γ} (h:cc_ step (b-a) g=some g') (hq:Q (φ g') (τ g')):wpS M A E s (forIn [a:b] (φ g) f) Q (τ g):=by
 rw [Std.Legacy.Range.forIn_eq_forIn_range'];have hsz:([a:b]:Std.Legacy.Range).size=b-a:=by simp [Std.Legacy.Range.size]
 show wpS M A E s (forIn (List.range' a ([a:b]:Std.Legacy.Range).size 1) (φ g) f) Q (τ g);rw [hsz];have go:∀(k:Nat) (l:List Nat) (g:γ),l.length=k->cc_ step k g=some g'->wpS M A E s (forIn l (φ g) f) Q (τ g):=by
  intro k;induction k with
  |zero=>
   intro l g hl h;cases l with
   |nil=>rw [List.forIn_nil];cases h;exact AV hq
   |cons _ _=>simp at hl
  |succ k ih=>
   intro l g hl h;cases l with
   |nil=>simp at hl
   |cons x l=>
    rw [List.forIn_cons];unfold cc_ at h;obtain⟨r,hr,h⟩:=AA.mp h;refine AK (hs x g r hr _ ?_);by_cases hd:r.1=true
    .rw [A9 hd] at h⊢;cases h;exact AV hq
    .rw [A7 hd] at h⊢;exact ih l r.2 (by simpa using hl) h
 exact go _ _ g (by simp) h
end
section
variable {prog:Program}{w:World}{A:Around}{E:Value->Shared->Prop}{s:Shared}{item:Nat->Keyed}{c:Nat->Nat->Option Bool}{kd:SortKind}
def cM_ (kd:SortKind) (prog:Program) (w:World) (A:Around) (s:Shared) (item:Nat->Keyed) (c:Nat->Nat->Option Bool):Prop:=
 ∀i j b,c i j=some b->∀Q:Bool->Shared->Prop,Q b s->wpAny (model prog w) A (keyLt' kd (item i).1 (item j).1) Q (fun _ _=>False) s
theorem eo_ (hc:cM_ kd prog w A s item c) {st:SortSt} (hk:kindOf st=kd) {i j:Nat}{b:Bool} (h:c i j=some b) {Q:Option Bool->SortSt->Prop} (hq:Q (some b) st):wpS (model prog w) A E s (lt' (item i) (item j)) Q st:=by
 rw [lt'_eq];refine AK (wpS_get ?_);rw [hk];refine AK (wpS_lift (CH (BH (hc i j b h _ ⟨rfl,AV hq⟩) (fun _ _ h=>h) fun _ _ hF=>hF.elim)))
theorem bI_ {st:SortSt}{arr:Array Nat}{i x:Nat} (h:arr[i]? =some x) {Q:Keyed->SortSt->Prop} (hq:Q (item x) st):wpS (model prog w) A E s (elem' (arr.map item) i) Q st:=by
 rw [elem'_eq,Array.getElem?_map,h];exact AV hq
def dv_ (c:Nat->Nat->Option Bool) (left:Bool) (key:Nat) (arr:Array Nat) (i:Nat):Option Bool:=arr[i]?.bind fun x=>if left=true then c x key else(c key x).map (!·)
def o1_ (b:Nat->Option Bool) (m:Nat) (g:Nat×Nat):Option (Bool×Nat×Nat):=if g.2>=m then some (true,g) else(b g.2).map fun y=>if y=true then(false,g.2,2*g.2+1) else(true,g)
def o3_ (b:Nat->Option Bool) (m:Nat) (g:Nat×Nat):Option (Bool×Nat×Nat):=if g.2>=m then some (true,g) else(b g.2).map fun y=>if y=true then(true,g) else(false,g.2,2*g.2+1)
def hl_ (b:Nat->Option Bool) (g:Nat×Nat):Option (Bool×Nat×Nat):=
 if g.1>=g.2 then some (true,g) else(b (g.1+(g.2-g.1)/2)).map fun y=>if y=true then(false,g.1+(g.2-g.1)/2+1,g.2) else(false,g.1,g.1+(g.2-g.1)/2)
def o0_ (c:Nat->Nat->Option Bool) (left:Bool) (key:Nat) (arr:Array Nat) (base n hint:Nat):Option Nat:=
 (dv_ c left key arr (base+hint)).bind fun right=>
  (if right=true then(cc_ (o1_ (fun o=>dv_ c left key arr (base+(hint+o))) (n-hint)) n (0,1)).map fun g=>(hint+g.1+1,hint+min g.2 (n-hint))
   else(cc_ (o3_ (fun o=>dv_ c left key arr (base+(hint-o))) (hint+1)) n (0,1)).map fun g=>(hint+1-min g.2 (hint+1),hint-g.1)).bind fun lh=>
   (cc_ (hl_ fun i=>dv_ c left key arr (base+i)) n lh).map (·.2)
theorem ci_ (hc:cM_ kd prog w A s item c) {st:SortSt} (hk:kindOf st=kd) {left:Bool}{key:Nat}{arr:Array Nat}{i:Nat}{b:Bool} (h:dv_ c left key arr i=some b) {Q:Option Bool->SortSt->Prop} (hq:Q (some b) st):
  wpS (model prog w) A E s (do
   let x<-elem' (arr.map item) i
   if left=true then lt' x (item key) else do
    let y<-lt' (item key) x
    pure (y.map (!·))) Q st:=by
 obtain⟨x,hx,h⟩:=AA.mp h;refine AK (bI_ hx ?_);by_cases hl:left=true
 .rw [A9 hl] at h⊢;exact eo_ hc hk h hq
 .rw [A7 hl] at h⊢;obtain⟨y,hy,rfl⟩:=A4.mp h;exact AK (eo_ hc hk hy (AV hq))
theorem fn_ (hc:cM_ kd prog w A s item c) {st:SortSt} (hk:kindOf st=kd) {left:Bool}{key:Nat}{arr:Array Nat}{base n hint k:Nat} (h:o0_ c left key arr base n hint=some k) {Q:Option Nat->SortSt->Prop} (hq:Q (some k) st):
  wpS (model prog w) A E s (lL_ left (item key) (arr.map item) base n hint) Q st:=by
 (unfold wpS;wp_delta;wp_delta;wp_delta;refine(show wpS _ _ _ _ _ _ _ from ?_))
 dsimp only;obtain⟨right,hr,h⟩:=AA.mp h;obtain⟨lh,h1,h2⟩:=AA.mp h;obtain⟨lh2,h3,rfl⟩:=A4.mp h2;refine AK (ci_ hc hk hr ?_);dsimp only;by_cases e:right=true
 .rw [A9 e] at h1⊢;obtain⟨g0,h0,rfl⟩:=A4.mp h1;refine AK (aC_ (γ:=Nat×Nat) (step:=o1_ (fun o=>dv_ c left key arr (base+(hint+o))) (n-hint)) (fun g=>(none,g.1,g.2)) (fun _=>st) (fun x g r hs R hR=> ?_) (a:=0) (b:=n) (g:=(0,1)) (g':=g0) h0 ?_)
  .unfold o1_ at hs;dsimp only;by_cases e:g.2>=n-hint
   .rw [A9 e] at hs⊢;cases hs;exact AV hR
   .rw [A7 e] at hs⊢;obtain⟨y,hy,rfl⟩:=A4.mp hs;refine AK (ci_ hc hk hy ?_);cases y<;>exact AV hR
  .dsimp only;refine AK (aC_ (γ:=Nat×Nat) (step:=hl_ fun i=>dv_ c left key arr (base+i)) (fun g=>(none,g.1,g.2)) (fun _=>st) (fun x g r hs R hR=> ?_) (a:=0) (b:=n) (g:=(hint+g0.1+1,hint+min g0.2 (n-hint))) (g':=lh2) h3 (AV hq));unfold hl_ at hs;dsimp only;by_cases e:g.1>=g.2
   .rw [A9 e] at hs⊢;cases hs;exact AV hR
   .rw [A7 e] at hs⊢;obtain⟨y,hy,rfl⟩:=A4.mp hs;refine AK (ci_ hc hk hy ?_);cases y<;>exact AV hR
 .rw [A7 e] at h1⊢;obtain⟨g0,h0,rfl⟩:=A4.mp h1;refine AK (aC_ (γ:=Nat×Nat) (step:=o3_ (fun o=>dv_ c left key arr (base+(hint-o))) (hint+1)) (fun g=>(none,g.1,g.2)) (fun _=>st) (fun x g r hs R hR=> ?_) (a:=0) (b:=n) (g:=(0,1)) (g':=g0) h0 ?_)
  .unfold o3_ at hs;dsimp only;by_cases e:g.2>=hint+1
   .rw [A9 e] at hs⊢;cases hs;exact AV hR
   .rw [A7 e] at hs⊢;obtain⟨y,hy,rfl⟩:=A4.mp hs;refine AK (ci_ hc hk hy ?_);cases y<;>exact AV hR
  .dsimp only;refine AK (aC_ (γ:=Nat×Nat) (step:=hl_ fun i=>dv_ c left key arr (base+i)) (fun g=>(none,g.1,g.2)) (fun _=>st) (fun x g r hs R hR=> ?_) (a:=0) (b:=n) (g:=(hint+1-min g0.2 (hint+1),hint-g0.1)) (g':=lh2) h3 (AV hq));unfold hl_ at hs;dsimp only;by_cases e:g.1>=g.2
   .rw [A9 e] at hs⊢;cases hs;exact AV hR
   .rw [A7 e] at hs⊢;obtain⟨y,hy,rfl⟩:=A4.mp hs;refine AK (ci_ hc hk hy ?_);cases y<;>exact AV hR
def gj_ (a b out:Array Nat) (ia ib:Nat):Array Nat:=out++a.extract ia a.size++b.extract ib b.size
def gi_ (a b out:Array Nat) (ia ib:Nat):Array Nat:=out++b.extract ib b.size++a.extract ia a.size
def oK_ (c:Nat->Nat->Option Bool) (a b:Array Nat) (sg:Nat):Option (Array Nat×Nat):=
 b[0]?.bind fun y=>
  if(1==b.size)=true then some (gj_ a b #[y] 0 1,sg)
  else if(0+1==a.size)=true then some (gi_ a b #[y] 0 1,sg)
  else none
abbrev ro_ (st:SortSt) (g:Nat):SortSt:=SortSt.mk' (kindOf st) (arrOf st) (pendingOf st) g (failedOf st)
theorem ha_ (a b out:Array Nat) (ia ib:Nat):(gj_ a b out ia ib).map item=out.map item++(a.map item).extract ia (a.map item).size++(b.map item).extract ib (b.map item).size:=by
 unfold gj_;simp
theorem g9_ (a b out:Array Nat) (ia ib:Nat):(gi_ a b out ia ib).map item=out.map item++(b.map item).extract ib (b.map item).size++(a.map item).extract ia (a.map item).size:=by
 unfold gi_;simp
theorem cC_ {M:Model}{σ α:Type}{c:Prop} [Decidable c] {x y:StateT σ Sem α}{Q:α->σ->Prop}{st:σ} (hc:c) (h:wpS M A E s x Q st):wpS M A E s (if c then x else y) Q st:=by
 rw [A9 hc];exact h
theorem el_ {M:Model}{σ α:Type}{c:Prop} [Decidable c] {x y:StateT σ Sem α}{Q:α->σ->Prop}{st:σ} (hc:¬c) (h:wpS M A E s y Q st):wpS M A E s (if c then x else y) Q st:=by
 rw [A7 hc];exact h
set_option maxHeartbeats 4000000 in
theorem jG_ (hc:cM_ kd prog w A s item c) {st:SortSt} (hk:kindOf st=kd) {a b out:Array Nat}{g:Nat} (h:oK_ c a b (gallopOf st)=some (out,g)) {Q:Array Keyed->SortSt->Prop} (hq:Q (out.map item) (ro_ st g)):
  wpS (model prog w) A E s (jP_ (a.map item) (b.map item)) Q st:=by
 obtain⟨κ,ar,pd,g0,fl⟩:=st
 (unfold wpS;wp_delta;wp_delta;wp_delta;refine(show wpS _ _ _ _ _ _ _ from ?_))
 refine AK (wpS_lift (DA ⟨rfl, ?_⟩));unfold oK_ at h;obtain⟨y,hy,h⟩:=AA.mp h;refine AK (bI_ hy ?_);by_cases e1:(1==b.size)=true
 .rw [A9 e1] at h;cases h;refine cC_ (by simpa using e1) (AV ?_);rw [ha_] at hq;simpa using hq
 rw [A7 e1] at h;by_cases e2:(0+1==a.size)=true
 .rw [A9 e2] at h;cases h;refine el_ (by simpa using e1) (cC_ (by simpa using e2) (AV ?_));rw [g9_] at hq;simpa using hq
 rw [A7 e2] at h;cases h
end
end L2
namespace L2
open PySem PyProof.Rows
section
variable {prog:Program}{w:World}{A:Around}{E:Value->Shared->Prop}{s:Shared}{item:Nat->Keyed}{c:Nat->Nat->Option Bool}{kd:SortKind}
def rS_ (c:Nat->Nat->Option Bool) (a b:Array Nat) (sg:Nat):Option (Array Nat×Nat):=none
end
end L2
namespace L2
open PySem PyProof.Rows
def eR_ {γ:Type} (step:Nat->γ->Option (Bool×γ)):Nat->Nat->γ->Option γ
 |0,_,g=>some g
 |f+1,i,g=>(step i g).bind fun r=>if r.1=true then some r.2 else eR_ step f (i+1) r.2
section
variable {M:Model}{A:Around}{E:Value->Shared->Prop}{s:Shared}{σ:Type}
theorem hM_ {β γ:Type}{step:Nat->γ->Option (Bool×γ)} (φ:γ->β) (τ:γ->σ) {f:Nat->β->StateT σ Sem (ForInStep β)}{Q:β->σ->Prop}
  (hs:∀x g r,step x g=some r->∀R:ForInStep β->σ->Prop,R (if r.1=true then .done (φ r.2) else .yield (φ r.2)) (τ r.2)->wpS M A E s (f x (φ g)) R (τ g))
  {a b:Nat}{g g':γ} (h:eR_ step (b-a) a g=some g') (hq:Q (φ g') (τ g')):wpS M A E s (forIn [a:b] (φ g) f) Q (τ g):=by
 rw [Std.Legacy.Range.forIn_eq_forIn_range'];have hsz:([a:b]:Std.Legacy.Range).size=b-a:=by simp [Std.Legacy.Range.size]
 show wpS M A E s (forIn (List.range' a ([a:b]:Std.Legacy.Range).size 1) (φ g) f) Q (τ g);rw [hsz];have go:∀(k i:Nat) (g:γ),eR_ step k i g=some g'->wpS M A E s (forIn (List.range' i k 1) (φ g) f) Q (τ g):=by
  intro k;induction k with
  |zero=>
   intro i g h;cases h;rw [List.range'_zero,List.forIn_nil];exact AV hq
  |succ k ih=>
   intro i g h;rw [List.range'_succ,List.forIn_cons];unfold eR_ at h;obtain⟨r,hr,h⟩:=AA.mp h;refine AK (hs i g r hr _ ?_);by_cases hd:r.1=true
   .rw [A9 hd] at h⊢;cases h;exact AV hq
   .rw [A7 hd] at h⊢;exact ih (i+1) r.2 h
 exact go _ a g h
end
section
variable {prog:Program}{w:World}{A:Around}{E:Value->Shared->Prop}{s:Shared}{item:Nat->Keyed}{c:Nat->Nat->Option Bool}{kd:SortKind}{pd:Array (Nat×Nat×Nat)}{g:Nat}
abbrev bA_ (kd:SortKind) (item:Nat->Keyed) (p:Array Nat) (pd:Array (Nat×Nat×Nat)) (g:Nat):SortSt:=SortSt.mk' kd (p.map item) pd g none
def j3_ (c:Nat->Nat->Option Bool) (p:Array Nat) (i j:Nat):Option Bool:=p[i]?.bind fun x=>p[j]?.bind fun y=>c x y
theorem bg_ (hc:cM_ kd prog w A s item c) {p:Array Nat}{i j:Nat}{b:Bool} (h:j3_ c p i j=some b) {Q:Option Bool->SortSt->Prop} (hq:Q (some b) (bA_ kd item p pd g)):wpS (model prog w) A E s (ltAt' i j) Q (bA_ kd item p pd g):=by
 obtain⟨x,hx,h⟩:=AA.mp h;obtain⟨y,hy,h⟩:=AA.mp h;rw [ltAt'_eq];refine AK (wpS_get ?_);dsimp only;exact AK (bI_ hx (AK (bI_ hy (eo_ hc rfl h hq))))
def h2_ (p:Array Nat) (i j:Nat):Array Nat:=mirror p i j ((j-i)/2)
theorem bm_ {p:Array Nat}{i j:Nat}{Q:Unit->SortSt->Prop} (h:Q () (bA_ kd item (h2_ p i j) pd g)):wpS (model prog w) A E s (reverseSlice' i j) Q (bA_ kd item p pd g):=by
 rw [reverseSlice'_eq];refine Ct ?_;have e1:mirror (p.map item) i j ((j-i)/2)=(h2_ p i j).map item:=W.kas_swaps_map item (fun k=>i+k) (fun k=>j-1-k) _ p;show Q () (SortSt.mk' kd (mirror (p.map item) i j ((j-i)/2)) pd g none);rw [e1];exact h
theorem hS_ {p:Array Nat}{k l:Nat}{Q:Unit->SortSt->Prop} (h:Q () (bA_ kd item (bubble p k (k-l)) pd g)):wpS (model prog w) A E s (moveDown' k l) Q (bA_ kd item p pd g):=by
 rw [moveDown'_eq];refine Ct ?_;have e1:bubble (p.map item) k (k-l)=(bubble p k (k-l)).map item:=W.kas_swaps_map item (fun i=>k-i) (fun i=>k-i-1) _ p;show Q () (SortSt.mk' kd (bubble (p.map item) k (k-l)) pd g none);rw [e1];exact h
def e5_ (c:Nat->Nat->Option Bool) (p:Array Nat) (l:Nat) (m:Nat):Option (Bool×Nat):=(j3_ c p (l+m) (l+m-1)).map fun q=>if q=true then(true,m) else(false,m+1)
def e4_ (c:Nat->Nat->Option Bool) (l:Nat) (t:Array Nat×Nat×Nat):Option (Bool×Array Nat×Nat×Nat):=
 (j3_ c t.1 (l+t.2.1) (l+t.2.1-1)).bind fun q=>
  if q=true then if t.2.2>0 then some (false,h2_ t.1 (l+t.2.1-(t.2.2+1)) (l+t.2.1),t.2.1+1,0) else some (false,t.1,t.2.1+1,0)
  else(j3_ c t.1 (l+t.2.1-1) (l+t.2.1)).bind fun r=>if r=true then some (true,t.1,t.2.1,t.2.2) else some (false,t.1,t.2.1+1,t.2.2+1)
def gz_ (c:Nat->Nat->Option Bool) (l n:Nat) (p:Array Nat) (m:Nat):Option (Nat×Array Nat):=(cc_ (e5_ c (h2_ p l (l+m)) l) (n-m) m).map fun k=>(k,h2_ p l (l+m))
def gA_ (c:Nat->Nat->Option Bool) (l n:Nat) (p:Array Nat) (m:Nat):Option (Nat×Array Nat):=
 (cc_ (e4_ c l) (n-(m+1)) (p,m+1,0)).bind fun t=>if t.2.2>0 then gz_ c l n (h2_ t.1 (l+t.2.1-(t.2.2+1)) (l+t.2.1)) t.2.1 else gz_ c l n t.1 t.2.1
def l2_ (c:Nat->Nat->Option Bool) (l n:Nat) (p:Array Nat):Option (Nat×Array Nat):=
 (cc_ (e5_ c p l) (n-1) 1).bind fun m=>if(m==n)=true then some (m,p) else if m>1 then(j3_ c p l (l+m-1)).bind fun q=>if q=true then some (m,p) else gA_ c l n (h2_ p l (l+m)) m else gA_ c l n p m
set_option maxHeartbeats 2000000 in
theorem jF_ (hc:cM_ kd prog w A s item c) {l n k:Nat}{p p':Array Nat} (h:l2_ c l n p=some (k,p')) {Q:Option Nat->SortSt->Prop} (hq:Q (some k) (bA_ kd item p' pd g)):wpS (model prog w) A E s (countRun' l n) Q (bA_ kd item p pd g):=by
 (unfold wpS;wp_delta;wp_delta;wp_delta;refine(show wpS _ _ _ _ _ _ _ from ?_))
 dsimp only;unfold l2_ at h;obtain⟨m,h0,h⟩:=AA.mp h;have hz:=h0
 (
  refine AK (aC_ (γ:=Nat) (step:=e5_ c _ l) (fun m=>(none,m)) (fun _=>bA_ kd item _ pd g) (fun x m r hs R hR=> ?_) hz ?_)
  .obtain⟨q,hq1,rfl⟩:=A4.mp hs;refine AK (bg_ hc hq1 ?_);cases q<;>exact AV hR)
 dsimp only;by_cases e1:(m==n)=true
 .rw [A9 e1] at h⊢;cases h;exact AV hq
 rw [A7 e1] at h⊢;by_cases e2:m>1
 .rw [A9 e2] at h⊢;obtain⟨q,hq1,h⟩:=AA.mp h;refine AK (bg_ hc hq1 ?_);dsimp only;by_cases e3:q=true
  .rw [A9 e3] at h⊢;cases h;exact AV hq
  rw [A7 e3] at h⊢;refine AK (bm_ ?_);unfold gA_ gz_ at h
  (
   refine AK (wpS_lift (DA ⟨rfl, ?_⟩));obtain⟨t,h1,h2⟩:=AA.mp h;refine AK (aC_ (γ:=Array Nat×Nat×Nat) (step:=e4_ c l) (fun t=>(none,t.2.1,t.2.2)) (fun t=>bA_ kd item t.1 pd g) (fun x t r hs R hR=> ?_) h1 ?_)
   .unfold e4_ at hs;obtain⟨q,hq1,hs⟩:=AA.mp hs;refine AK (bg_ hc hq1 ?_);cases q with
    |true=>
     dsimp only;rw [A9 rfl] at hs⊢;split at hs
     .rename_i z;rw [A9 z];cases hs;exact AK (bm_ (AV hR))
     .rename_i z;rw [A7 z];cases hs;exact AV hR
    |false=>
     dsimp only;rw [A7 (by simp)] at hs⊢;obtain⟨r,hr1,hs⟩:=AA.mp hs;refine AK (bg_ hc hr1 ?_);cases r<;>(cases hs;exact AV hR)
   .dsimp only;split at h2
    .rename_i z;rw [A9 z];refine AK (bm_ ?_);refine AK (bm_ ?_);obtain⟨k2,h3,h4⟩:=A4.mp h2;cases h4;have hz:=h3
     (
      refine AK (aC_ (γ:=Nat) (step:=e5_ c _ l) (fun m=>(none,m)) (fun _=>bA_ kd item _ pd g) (fun x m r hs R hR=> ?_) hz ?_)
      .obtain⟨q,hq1,rfl⟩:=A4.mp hs;refine AK (bg_ hc hq1 ?_);cases q<;>exact AV hR)
     exact AV hq
    .rename_i z;rw [A7 z];refine AK (bm_ ?_);obtain⟨k2,h3,h4⟩:=A4.mp h2;cases h4;have hz:=h3
     (
      refine AK (aC_ (γ:=Nat) (step:=e5_ c _ l) (fun m=>(none,m)) (fun _=>bA_ kd item _ pd g) (fun x m r hs R hR=> ?_) hz ?_)
      .obtain⟨q,hq1,rfl⟩:=A4.mp hs;refine AK (bg_ hc hq1 ?_);cases q<;>exact AV hR)
     exact AV hq)
 .rw [A7 e2] at h⊢;unfold gA_ gz_ at h
  (
   refine AK (wpS_lift (DA ⟨rfl, ?_⟩));obtain⟨t,h1,h2⟩:=AA.mp h;refine AK (aC_ (γ:=Array Nat×Nat×Nat) (step:=e4_ c l) (fun t=>(none,t.2.1,t.2.2)) (fun t=>bA_ kd item t.1 pd g) (fun x t r hs R hR=> ?_) h1 ?_)
   .unfold e4_ at hs;obtain⟨q,hq1,hs⟩:=AA.mp hs;refine AK (bg_ hc hq1 ?_);cases q with
    |true=>
     dsimp only;rw [A9 rfl] at hs⊢;split at hs
     .rename_i z;rw [A9 z];cases hs;exact AK (bm_ (AV hR))
     .rename_i z;rw [A7 z];cases hs;exact AV hR
    |false=>
     dsimp only;rw [A7 (by simp)] at hs⊢;obtain⟨r,hr1,hs⟩:=AA.mp hs;refine AK (bg_ hc hr1 ?_);cases r<;>(cases hs;exact AV hR)
   .dsimp only;split at h2
    .rename_i z;rw [A9 z];refine AK (bm_ ?_);refine AK (bm_ ?_);obtain⟨k2,h3,h4⟩:=A4.mp h2;cases h4;have hz:=h3
     (
      refine AK (aC_ (γ:=Nat) (step:=e5_ c _ l) (fun m=>(none,m)) (fun _=>bA_ kd item _ pd g) (fun x m r hs R hR=> ?_) hz ?_)
      .obtain⟨q,hq1,rfl⟩:=A4.mp hs;refine AK (bg_ hc hq1 ?_);cases q<;>exact AV hR)
     exact AV hq
    .rename_i z;rw [A7 z];refine AK (bm_ ?_);obtain⟨k2,h3,h4⟩:=A4.mp h2;cases h4;have hz:=h3
     (
      refine AK (aC_ (γ:=Nat) (step:=e5_ c _ l) (fun m=>(none,m)) (fun _=>bA_ kd item _ pd g) (fun x m r hs R hR=> ?_) hz ?_)
      .obtain⟨q,hq1,rfl⟩:=A4.mp hs;refine AK (bg_ hc hq1 ?_);cases q<;>exact AV hR)
     exact AV hq)
def pl_ (c:Nat->Nat->Option Bool) (p:Array Nat) (l k:Nat) (t:Nat×Nat):Option (Bool×Nat×Nat):=
 if t.1>=t.2 then some (true,t.1,t.2) else(j3_ c p (l+k) (l+(t.1+t.2)/2)).bind fun q=>if q=true then some (false,t.1,(t.1+t.2)/2) else some (false,(t.1+t.2)/2+1,t.2)
def nY_ (c:Nat->Nat->Option Bool) (l k:Nat) (p:Array Nat):Option (Bool×Array Nat):=(cc_ (pl_ c p l k) k (0,k)).map fun t=>(false,bubble p (l+k) (l+k-(l+t.1)))
def l4_ (c:Nat->Nat->Option Bool) (l n ok:Nat) (p:Array Nat):Option (Array Nat):=eR_ (nY_ c l) (n-max ok 1) (max ok 1) p
theorem jH_ (hc:cM_ kd prog w A s item c) {l n ok:Nat}{p p':Array Nat} (h:l4_ c l n ok p=some p') {Q:Bool->SortSt->Prop} (hq:Q true (bA_ kd item p' pd g)):wpS (model prog w) A E s (binarySort' l n ok) Q (bA_ kd item p pd g):=by
 (unfold wpS;wp_delta;wp_delta;wp_delta;refine(show wpS _ _ _ _ _ _ _ from ?_))
 dsimp only;refine AK (hM_ (γ:=Array Nat) (step:=nY_ c l) (fun _=>(none,())) (fun p=>bA_ kd item p pd g) (fun k p r hs R hR=> ?_) h (AV hq));obtain⟨t,ht,rfl⟩:=A4.mp hs;refine AK (aC_ (γ:=Nat×Nat) (step:=pl_ c p l k) (fun t=>(none,t.1,t.2)) (fun _=>bA_ kd item p pd g) (fun x t r hs R hR=> ?_) (a:=0) (b:=k) ht ?_)
 .unfold pl_ at hs;dsimp only;by_cases e:t.1>=t.2
  .rw [A9 e] at hs⊢;cases hs;exact AV hR
  .rw [A7 e] at hs⊢;obtain⟨q,hq1,hs⟩:=AA.mp hs;refine AK (bg_ hc hq1 ?_);cases q<;>(cases hs;exact AV hR)
 .exact AK (hS_ (AV hR))
end
end L2
namespace L2
open PySem PyProof.Rows
section
variable {prog:Program}{w:World}{A:Around}{E:Value->Shared->Prop}{s:Shared}{item:Nat->Keyed}{c:Nat->Nat->Option Bool}{kd:SortKind}
abbrev s2_:=Array (Nat×Nat×Nat)
def oP_ (p:Array Nat) (o:Nat) (xs:Array Nat):Array Nat:=xs.toList.zipIdx.foldl (fun a x=>a.setIfInBounds (o+x.2) x.1) p
theorem lp_ (p:Array Nat) (o:Nat) (xs:Array Nat):(xs.map item).toList.zipIdx.foldl (fun a x=>a.setIfInBounds (o+x.2) x.1) (p.map item)=(oP_ p o xs).map item:=by
 have go:∀(l:List Nat) (k:Nat) (p:Array Nat),((l.map item).zipIdx k).foldl (fun a x=>a.setIfInBounds (o+x.2) x.1) (p.map item)=((l.zipIdx k).foldl (fun a x=>a.setIfInBounds (o+x.2) x.1) p).map item:=by
  intro l;induction l with
  |nil=>intro k p;rfl
  |cons x l ih=>
   intro k p;rw [AW,List.zipIdx_cons,List.zipIdx_cons,List.foldl_cons,List.foldl_cons];rw [show(p.map item).setIfInBounds (o+k) (item x)=(p.setIfInBounds (o+k) x).map item from(Array.map_setIfInBounds ..).symm];exact ih _ _
 rw [Array.toList_map];exact go _ 0 p
abbrev iw_:=Array Nat×s2_×Nat
def mK_ (c:Nat->Nat->Option Bool) (i:Nat) (t:iw_):Option iw_:=
 t.2.1[i]?.bind fun u=>t.2.1[i+1]?.bind fun v=>t.1[v.1]?.bind fun y=>(o0_ c false y t.1 u.1 u.2.1 0).bind fun k=>
  if(u.2.1-k==0)=true then some (t.1,(t.2.1.setIfInBounds i (u.1,u.2.1+v.2.1,u.2.2)).eraseIdxIfInBounds (i+1),t.2.2)
  else t.1[u.1+k+(u.2.1-k)-1]?.bind fun x=>(o0_ c true x t.1 v.1 v.2.1 (v.2.1-1)).bind fun nb=>
   if(nb==0)=true then some (t.1,(t.2.1.setIfInBounds i (u.1,u.2.1+v.2.1,u.2.2)).eraseIdxIfInBounds (i+1),t.2.2)
   else if u.2.1-k<=nb then(oK_ c (t.1.extract (u.1+k) v.1) (t.1.extract v.1 (v.1+nb)) t.2.2).bind fun r=>some (oP_ t.1 (u.1+k) r.1,(t.2.1.setIfInBounds i (u.1,u.2.1+v.2.1,u.2.2)).eraseIdxIfInBounds (i+1),r.2)
   else(rS_ c (t.1.extract (u.1+k) v.1) (t.1.extract v.1 (v.1+nb)) t.2.2).bind fun r=>some (oP_ t.1 (u.1+k) r.1,(t.2.1.setIfInBounds i (u.1,u.2.1+v.2.1,u.2.2)).eraseIdxIfInBounds (i+1),r.2)
theorem ka_ {M:Model}{σ:Type}{x:σ}{Q:PUnit->σ->Prop}{st:σ} (h:Q ⟨⟩ x):wpS M A E s (set x:StateT σ Sem PUnit) Q st:=by
 unfold wpS;show wpAny M A (pure ((),x)) _ E s;exact A3 ⟨rfl,h⟩
set_option maxHeartbeats 2000000 in
theorem dB_ (hc:cM_ kd prog w A s item c) {i:Nat}{t t':iw_} (h:mK_ c i t=some t') {Q:Bool->SortSt->Prop} (hq:Q true (bA_ kd item t'.1 t'.2.1 t'.2.2)):wpS (model prog w) A E s (mergeAt' i) Q (bA_ kd item t.1 t.2.1 t.2.2):=by
 (unfold wpS;wp_delta;wp_delta;wp_delta;refine(show wpS _ _ _ _ _ _ _ from ?_))
 dsimp only;refine AK (wpS_get ?_);unfold mK_ at h;obtain⟨⟨sa,na,pw⟩,hu,h⟩:=AA.mp h;obtain⟨⟨sb,nb,pw2⟩,hv,h⟩:=AA.mp h;obtain⟨y,hy,h⟩:=AA.mp h;obtain⟨k,hk,h⟩:=AA.mp h;dsimp only at*
 rw [hu,hv];dsimp only;refine AK (ka_ ?_);refine AK (bI_ hy ?_);refine AK (fn_ hc rfl hk ?_);dsimp only;by_cases e1:(na-k==0)=true
 .rw [A9 e1] at h;cases h;exact cC_ e1 (AV hq)
 rw [A7 e1] at h;refine el_ e1 ?_;obtain⟨x,hx,h⟩:=AA.mp h;obtain⟨nb2,hk2,h⟩:=AA.mp h;refine AK (bI_ hx ?_);refine AK (fn_ hc rfl hk2 ?_);by_cases e2:(nb2==0)=true
 .rw [A9 e2] at h;cases h;exact cC_ e2 (AV hq)
 rw [A7 e2] at h;refine el_ e2 ?_;have x1:(t.1.map item).extract (sa+k) sb=(t.1.extract (sa+k) sb).map item:=by simp
 have x2:(t.1.map item).extract sb (sb+nb2)=(t.1.extract sb (sb+nb2)).map item:=by simp
 by_cases e3:na-k<=nb2
 .rw [A9 e3] at h;obtain⟨r,hr,h⟩:=AA.mp h;cases h;refine cC_ e3 (AK (by
   rw [x1,x2];refine jG_ hc rfl hr ?_;refine AK (Ct ?_);refine AK (wpS_get (AV ?_));dsimp only;rw [lp_];exact hq))
 .rw [A7 e3] at h;obtain⟨r,hr,h⟩:=AA.mp h;cases hr
end
end L2
namespace L2
open PySem PyProof.Rows
section
variable {prog:Program}{w:World}{A:Around}{E:Value->Shared->Prop}{s:Shared}{item:Nat->Keyed}{c:Nat->Nat->Option Bool}{kd:SortKind}
def gN_ (c:Nat->Nat->Option Bool) (pw:Nat) (t:iw_):Option (Bool×iw_):=
 match(if t.2.1.size>1 then t.2.1[t.2.1.size-2]? else none) with
 |some u=>if u.2.2<=pw then some (true,t) else(mK_ c (t.2.1.size-2) t).bind fun t'=>some (false,t')
 |none=>some (true,t)
def fU_ (c:Nat->Nat->Option Bool) (size lo n:Nat) (t:iw_):Option (Bool×Nat×iw_):=
 match t.2.1.back? with
 |some u=>(cc_ (gN_ c (power' size (2*u.1+u.2.1) (2*u.1+u.2.1+u.2.1+n) size)) size t).bind fun t'=>
  some (false,lo+n,t'.1,(t'.2.1.modify (t'.2.1.size-1) fun x=>(x.1,x.2.1,power' size (2*u.1+u.2.1) (2*u.1+u.2.1+u.2.1+n) size)).push (lo,n,0),t'.2.2)
 |none=>some (false,lo+n,t.1,t.2.1.push (lo,n,0),t.2.2)
def kD_ (c:Nat->Nat->Option Bool) (size:Nat) (g:Nat×iw_):Option (Bool×Nat×iw_):=
 if g.1>=size then some (true,g) else(l2_ c g.1 (size-g.1) g.2.1).bind fun r=>
  if r.1<minRun' size size 0 then(l4_ c g.1 (min (size-g.1) (minRun' size size 0)) r.1 r.2).bind fun p2=>fU_ c size g.1 (min (size-g.1) (minRun' size size 0)) (p2,g.2.2)
  else fU_ c size g.1 r.1 (r.2,g.2.2)
def kE_ (c:Nat->Nat->Option Bool) (t:iw_):Option (Bool×iw_):=
 if t.2.1.size<=1 then some (true,t)
 else(mK_ c (if Option.any (fun x=>decide (x<t.2.1[t.2.1.size-2+1]?.elim 0 fun x=>x.2.1)) (if t.2.1.size-2>0 then Option.map (fun x=>x.2.1) t.2.1[t.2.1.size-2-1]? else none)=true then t.2.1.size-2-1 else t.2.1.size-2) t).bind fun t'=>some (false,t')
def eu_ (c:Nat->Nat->Option Bool) (n:Nat):Option (Array Nat):=
 (cc_ (kD_ c n) n (0,List.toArray (List.range n), #[],7)).bind fun g=>(cc_ (kE_ c) n g.2).map (·.1)
set_option maxHeartbeats 2000000 in
theorem hR_ (hc:cM_ kd prog w A s item c) {n:Nat}{p:Array Nat} (h:eu_ c n=some p) {Q:Unit->SortSt->Prop} (hq:∀pd g,Q () (bA_ kd item p pd g)):wpS (model prog w) A E s sortRuns' Q (bA_ kd item (List.toArray (List.range n)) #[] 7):=by
 rw [sortRuns'_eq];try dsimp only
 refine AK (wpS_get ?_);have hz:(arrOf (bA_ kd item (List.toArray (List.range n)) #[] 7)).size=n:=by
  show((List.toArray (List.range n)).map item).size=n;simp
 rw [hz];unfold eu_ at h;obtain⟨g,h1,h⟩:=AA.mp h;obtain⟨t,h2,rfl⟩:=A4.mp h;refine AK (aC_ (γ:=Nat×iw_) (step:=kD_ c n) (fun g=>(none,g.1)) (fun g=>bA_ kd item g.2.1 g.2.2.1 g.2.2.2) (fun x g r hs R hR=> ?_) (a:=0) (b:=n) (g:=(0,List.toArray (List.range n), #[],7)) h1 ?_)
 .unfold kD_ at hs;try dsimp only
  by_cases e1:g.1>=n
  .rw [A9 e1] at hs⊢;cases hs;exact AV hR
  rw [A7 e1] at hs⊢;obtain⟨k,hk,hs⟩:=AA.mp hs;refine AK (jF_ hc hk ?_);try dsimp only
  by_cases e2:k.1<minRun' n n 0
  .rw [A9 e2] at hs⊢;obtain⟨p2,hp,hs⟩:=AA.mp hs;refine AK (wpS_lift (DA ⟨rfl, ?_⟩));refine AK (jH_ hc hp ?_);simp only [C3,AJ,As]
   (
    unfold fU_ at hs;refine AK (wpS_get ?_);try dsimp only at hs⊢
    split at hs
    .rename_i u hu;rw [hu];try dsimp only
     obtain⟨t',ht,hs⟩:=AA.mp hs;cases hs;refine AK (aC_ (γ:=iw_) (step:=gN_ c _) (fun _=>(none,())) (fun t=>bA_ kd item t.1 t.2.1 t.2.2) (fun x t r hs R hR=> ?_) (a:=0) ht ?_)
     .unfold gN_ at hs;refine AK (wpS_get ?_);try dsimp only
      split at hs
      .rename_i v hv;rw [hv];try dsimp only
       split at hs
       .rename_i z;rw [A9 z];cases hs;exact AV hR
       .rename_i z;rw [A7 z];obtain⟨t',hm,hs⟩:=AA.mp hs;cases hs;exact AK (dB_ hc hm (AV hR))
      .rename_i hv;rw [hv];cases hs;exact AV hR
     .try dsimp only
      exact AK (Ct (AK (Ct (AV hR))))
    .rename_i hu;rw [hu];cases hs;exact AK (Ct (AV hR)))
  .rw [A7 e2] at hs⊢
   (
    unfold fU_ at hs;refine AK (wpS_get ?_);try dsimp only at hs⊢
    split at hs
    .rename_i u hu;rw [hu];try dsimp only
     obtain⟨t',ht,hs⟩:=AA.mp hs;cases hs;refine AK (aC_ (γ:=iw_) (step:=gN_ c _) (fun _=>(none,())) (fun t=>bA_ kd item t.1 t.2.1 t.2.2) (fun x t r hs R hR=> ?_) (a:=0) ht ?_)
     .unfold gN_ at hs;refine AK (wpS_get ?_);try dsimp only
      split at hs
      .rename_i v hv;rw [hv];try dsimp only
       split at hs
       .rename_i z;rw [A9 z];cases hs;exact AV hR
       .rename_i z;rw [A7 z];obtain⟨t',hm,hs⟩:=AA.mp hs;cases hs;exact AK (dB_ hc hm (AV hR))
      .rename_i hv;rw [hv];cases hs;exact AV hR
     .try dsimp only
      exact AK (Ct (AK (Ct (AV hR))))
    .rename_i hu;rw [hu];cases hs;exact AK (Ct (AV hR)))
 .try dsimp only
  refine AK (aC_ (γ:=iw_) (step:=kE_ c) (fun _=>(none,())) (fun t=>bA_ kd item t.1 t.2.1 t.2.2) (fun x t r hs R hR=> ?_) (a:=0) (b:=n) (g:=g.2) h2 (AV (hq _ _)));unfold kE_ at hs;refine AK (wpS_get ?_);try dsimp only
  by_cases e1:t.2.1.size<=1
  .rw [A9 e1] at hs⊢;cases hs;exact AV hR
  rw [A7 e1] at hs⊢;obtain⟨t',hm,hs⟩:=AA.mp hs;cases hs;exact AK (dB_ hc hm (AV hR))
end
end L2
namespace L2
open PySem PySem.Spec PyProof.Rows PySem.W
section
variable {prog:Program}{w:World}{A:Around}{E:Value->Shared->Prop}{s:Shared}
theorem hW_ {kd:SortKind}{a:Addr}{vs:List Value}{n:Nat}{c:Nat->Nat->Option Bool}{p:Array Nat}{P:PySem.Fin->Shared->Prop} (ho:s.heap.get? a=some (seqObj "list" vs.toArray n)) (h2:2<=vs.length) (hL:vs.length<=1000) (hp:p.size<=1000)
  (hkd:∀(R:SortKind->Shared->Prop),R kd {s with heap:=aS_ s.heap a vs}->wpAny (model prog w) A (keyKind' vs.toArray) R E {s with heap:=aS_ s.heap a vs}) (hc:cM_ kd prog w A {s with heap:=aS_ s.heap a vs} (fK_ vs) c) (hs:eu_ c vs.length=some p)
  (h:P (.done (.ret .none)) {s with heap:=sortedHeap s.heap a vs (p.map fun i=>vs.getD i .none)}):wpAny (model prog w) A (Builtin.«list.sort» ⟨[.ref a],[]⟩) P E s:=by
 rw [list_sort_plain];have ha:a<s.heap.objs.size:=AF ho;refine A0 (listItems_at ho rfl ?_);refine A0 (CT ho rfl ?_ (by rw [A8,B'];lia) (AT _));obtain⟨e1,ho1⟩:∃e1,(s.heap.update a (Obj.mapSeq fun _=>(#[]:Array Value))).get? a=some (seqObj "list" #[] e1):=⟨_,CO ho (fun _=> #[])⟩;refine A0 (seqEpoch_at ho1 rfl ?_);refine A0 (wpAny_newTuple ?_ (by show vs.length<=_;rw [B'];lia));refine A0 (Cy ?_ (AT _));refine An ?_;have ho6:(aS_ s.heap a vs).get? a=some (seqObj "list" #[] e1):=by
  rw [Ax _ _ _ (by rw [Bl,Aw];exact AI (Ab ha)),Ax _ _ _ (by rw [Aw];exact AI ha)];exact ho1
 show wpAny (model prog w) A _ P E {s with heap:=aS_ s.heap a vs};dsimp only;have hn2:¬vs.toArray.size<2:=by rw [A8];lia
 rw [A7 hn2,A7 hn2];refine A0 (hkd _ ?_);have run:=hR_ (E:=E) hc hs (Q:=fun _ st'=>arrOf st'=p.map (fK_ vs)/\failedOf st'=none) fun pd g=>⟨rfl,rfl⟩;have est:bA_ kd (fK_ vs) (List.toArray (List.range vs.length)) #[] 7=SortSt.mk' kd (vs.toArray.zip vs.toArray) #[] 7 none:=by
  show SortSt.mk' kd ((List.toArray (List.range vs.length)).map (fK_ vs)) #[] 7 none=_;rw [hQ_]
 rw [est] at run;refine A0 (BH run ?_ fun _ _ e=>e);rintro⟨⟨⟩,st'⟩ s' ⟨rfl,har,hf⟩;dsimp only at har hf⊢;have eo:(arrOf st').map (·.2)=p.map fun i=>vs.getD i .none:=by
  rw [har,Array.map_map];rfl
 rw [eo];refine A0 (seqEpoch_at ho6 rfl ?_);refine A0 (CT ho6 rfl ?_ (AT _) (by rw [Array.size_map,B'];lia));rw [hf];simp only [CZ,AJ,As];exact A3 h
theorem fP_ {kd:SortKind}{l:Addr}{vs:List Value}{c:Nat->Nat->Option Bool}{p:Array Nat}{Q:Value->Shared->Prop} (hl:s.heap.IsList l vs.toArray) (h2:2<=vs.length) (hL:vs.length<=1000) (hp:p.size<=1000)
  (hkd:∀(R:SortKind->Shared->Prop) (E:Value->Shared->Prop),R kd {s with heap:=dg_ s.heap vs}->wpAny (model prog w) A.in1.in1 (keyKind' vs.toArray) R E {s with heap:=dg_ s.heap vs}) (hc:cM_ kd prog w A.in1.in1 {s with heap:=dg_ s.heap vs} (fK_ vs) c) (hs:eu_ c vs.length=some p)
  (h:Q (.ref (s.heap.objs.size+1)) {s with heap:=sortedAll s.heap vs (p.map fun i=>vs.getD i .none)}):wpAny (model prog w) A (call (.builtin "sorted") [.ref l]) Q E s:=by
 refine Calls.call_function_entry kind_sorted plain_sorted entry_sorted (args_sorted1 _) ?_;unfold Builtin.«sorted»;refine A0 (m:=checkCount "sorted" 1 1 _) (A3 ?_);refine A0 (collect_list hl ?_ (by rw [B'];lia));refine A0 (Cy ?_ (by rw [B'];lia));have hsz:((s.heap.push (seqObj "list" #[] 0)).update s.heap.objs.size (Obj.mapSeq (· ++vs.toArray))).objs.size=s.heap.objs.size+1:=by
  rw [Aw,Bl]
 have hoL:(((s.heap.push (seqObj "list" #[] 0)).update s.heap.objs.size (Obj.mapSeq (· ++vs.toArray))).push (seqObj "list" vs.toArray 0)).get? (s.heap.objs.size+1)=some (seqObj "list" vs.toArray 0):=by
  rw [<-hsz];exact AH _ rfl
 show wpAny _ _ _ _ _ {s with heap:=((s.heap.push (seqObj "list" #[] 0)).update s.heap.objs.size (Obj.mapSeq (· ++vs.toArray))).push (seqObj "list" vs.toArray 0)};rw [hsz];refine A0 (An (Ar slot_list_sort ⟨_,hoL,rfl⟩ entry_list_sort (hW_ (s:={s with heap:=((s.heap.push (seqObj "list" #[] 0)).update s.heap.objs.size (Obj.mapSeq (· ++vs.toArray))).push (seqObj "list" vs.toArray 0)}) hoL h2 hL hp (fun R=>hkd R _) hc hs ⟨_,rfl, ?_⟩) (args_list_sort _)));exact A3 ⟨_,rfl,h⟩
end
def gO_ (K:W.Frag):List V->Hp->VK->Prop:=fun vs H Q=>∃(l:Addr) (rs:List V) (c:Nat->Nat->Option Bool) (p:Array Nat),vs=[.ref l]/\SqL K H l rs/\2<=rs.length/\rs.length<=1000/\p.size<=1000/\(∀r∈rs,∃a ys,r= .ref a/\SqL K H a ys)/\
 (∀i j b,c i j=some b->∃x y,rs[i]? =some x/\rs[j]? =some y/\Ask K H x y b)/\eu_ c rs.length=some p/\(∀i∈p.toList,i<rs.length)/\∀q,H q=none->Q (.ref q) (upd H q (.lst (p.toList.map fun i=>rs.getD i .non)))
section
variable {X:Cx}
theorem fj_ {k:Nat} (hr:Room k X.A):ca_ X (.builtin "sorted") (gO_ X.K):=by
 intro pins s σ H xs us Q I r h;obtain⟨l,rs,c,p,rfl,hq,h2,hL,hps,hty,hask,hs,hpl,q⟩:=h;obtain⟨u,rfl,rx⟩:=dA_ r;cases rx;obtain⟨its,r',pl,hz⟩:=I.list hq;have ln:=r'.length;have hu:=hr.un;have I2:Inv X pins σ H {s with heap:=dg_ s.heap its}:=I.kept (t':=s.toks) fun b o e=>gI_ e;refine fP_ (kd:=oneType') (vs:=its) (c:=c) (p:=p) pl.isList (by lia) (by lia) hps (fun R E hR=>kas_kind (T:= .type "list") (by lia) (fun v hv=> ?_) rfl rfl hR) (fun i j b hb Q' hq'=> ?_) (by rw [<-ln];exact hs) ?_
 .obtain⟨i,hi,rfl⟩:=Bg.mp hv;have hi':i<rs.length:=by lia
  obtain⟨a,ys,e1,hy⟩:=hty rs[i] (By hi');obtain⟨u,hu1,ru⟩:=r'.get (A1 hi');rw [A1 hi] at hu1;rw [e1] at ru;obtain rfl:u=Value.ref a:=ru;rw [Ap hu1];obtain⟨js,r2,p2,z2⟩:=I2.list hy;obtain⟨o,ho,hc,_⟩:=p2.isList;exact hc▸(Looks.ld ho).andThen .now
 .obtain⟨x,y,hx,hy,a1,a2,xs,ys,d,es,fs,rfl,rfl,h1,h2,hd,he,hf,rfl⟩:=hask i j b hb;obtain⟨u,hu1,ru⟩:=r'.get hx;obtain⟨v,hv1,rv⟩:=r'.get hy;obtain rfl:u=Value.ref a1:=ru;obtain rfl:v=Value.ref a2:=rv;have g1:(fK_ its i).1= .ref a1:=by show its.getD i .none=_;rw [List.getD,hu1];rfl
  have g2:(fK_ its j).1= .ref a2:=by show its.getD j .none=_;rw [List.getD,hv1];rfl
  rw [g1,g2];exact LtR.key I2 h1 h2 he hf (by rw [bf_,bf_];lia) hq'
 .obtain⟨e,he⟩:=sortedAll_at s.heap its (p.map fun i=>its.getD i .none);have en:(p.map fun i=>its.getD i .none)=List.toArray (p.toList.map fun i=>its.getD i .none):=by
   apply Array.toList_inj.mp;simp
  rw [en] at he⊢;refine⟨.ref (s.heap.objs.size+1),_,I.laid (t':=s.toks) (fun _ _=>sortedAll_old) (Cn _) (show aQ_ X.prog X.w _ _ _ (.lst (p.toList.map fun i=>rs.getD i .non)) from⟨?_,_,e,em_ r' p.toList hpl,he⟩),rfl,q _ (I.hok.fresh (Cn _))⟩;rw [A2,Ay,B'];lia
end
section
variable {X:Cx}
def jL_ (K:W.Frag):List V->Hp->VK->Prop:=fun vs H Q=>(∃(l:Addr) (rs:List V),vs=[.ref l]/\SqL K H l rs/\rs.length<2/\∀q,H q=none->Q (.ref q) (upd H q (.lst rs)))\/gO_ K vs H Q
theorem fk_ {k:Nat} (hr:Room k X.A):ca_ X (.builtin "sorted") (jL_ X.K):=by
 intro pins s σ H xs us Q I r h;rcases h with h|h
 .obtain⟨l,rs,rfl,hq,h2,q⟩:=h;obtain⟨u,rfl,rx⟩:=dA_ r;cases rx;obtain⟨its,r',pl,hz⟩:=I.list hq;have ln:=r'.length;refine jJ_ (vs:=its) pl.isList (by lia) ?_;obtain⟨e,he⟩:=sortedAll_at s.heap its its.toArray;exact⟨.ref (s.heap.objs.size+1),_,I.laid (t':=s.toks) (fun _ _=>sortedAll_old) (Cn _) (show aQ_ X.prog X.w _ _ _ (.lst rs) from⟨hz,its,e,r',he⟩),rfl,q _ (I.hok.fresh (Cn _))⟩
 .exact fj_ hr pins s σ H xs us Q I r h
end
end L2
namespace L2
open PySem PySem.SetTable PySem.Spec PyProof.Rows
theorem f8_ {α:Type} [DecidableEq α]:∀{xs F:List α},xs.Nodup->(∀x∈xs,x∈F)->xs.length<=F.length
 |[],_,_,_=>AT _
 |x::xs,F,nd,h=>by
  obtain⟨n1,n2⟩:=Ba.mp nd;have hx:=h x (by simp);have:=f8_ (F:=F.erase x) n2 fun y hy=>(List.mem_erase_of_ne (by rintro rfl;exact n1 hy)).mpr (h y (by simp [hy]));rw [List.length_erase_of_mem hx] at this;have:0<F.length:=List.length_pos_of_mem hx;rw [Ag];lia
theorem oJ_ {prog:Program}{w:World}{h:Heap}{kk:Nat->List Int}{ad:Nat->Addr}{i:Nat}{es:Array (Int×Value)} (en:Ent prog w h es) (mk:Made prog w kk ad i es) (hkk:∀j,j<i->IsTupleKey (intKind prog w) h (kk j) (ad j))
  (hb:∃F:List (List Int),F.length<60/\∀j,j<i->kk j∈F):es.size<60:=by
 obtain⟨F,hF,hin⟩:=hb;obtain⟨js,ev,lt,nd,_⟩:=iE_ en mk hkk (List.Perm.refl _);have:=f8_ nd (F:=F) fun z hz=>by
  obtain⟨j,hj,rfl⟩:=Aa.mp hz;exact hin j (lt j hj)
 have e:=BW List.length ev;rw [A2,A2,Ay] at e;rw [A2] at this;lia
section
variable {prog:Program}{w:World}{A:Around}{E:Value->Shared->Prop}{s:Shared}
theorem ke_ {R:Result->Shared->Prop}{I:Addr}{fp wr:List Addr}{G:Array GenState->Array GenState->Prop}{n:Nat}{P:Nat->Value->Prop}{St:Nat->Shared->Prop}
  (Wq:WalksS prog w A.in1 I fp wr G n P St) (S:Addr) (hSf:S∉fp) (hu:A.in1.units<cLine) (led:Bool)
  (kk:Nat->List Int) (ad:Nat->Addr) (hval:∀i v,P i v->v= .ref (ad i)) (hwr:∀i,i<n->ad i∉wr) (hb:∃F:List (List Int),F.length<60/\∀i,i<n->kk i∈F):
  ∀(k i:Nat) (s:Shared) (es:Array (Int×Value)),n-i=k->i<=n->St i s->ma_ s.heap S led es->Ent prog w s.heap es->Made prog w kk ad i es->(∀j,j<n->IsTupleKey (intKind prog w) s.heap (kk j) (ad j))->
   (∀s' es',Moved (S::wr) G s s'->ma_ s'.heap S led es'->Ent prog w s'.heap es'->Made prog w kk ad n es'->R (.ok (.ret .none)) s')->
   codeAny (model prog w) A (.builtin "set.update.loop" ⟨[.ref S, .ref I],[]⟩) R s:=by
 have hSw:S∉wr:=fun h=>hSf (Wq.sub _ h);have hsub:∀b∈wr,b∈S::wr:=fun b hb=>At _ hb;intro k;induction k with
 |zero=>
  intro i s es hk hi hst hS en mk hkk hR;have hin:i=n:=by lia
  subst hin;refine Bo F.entry_set_update_loop ?_;rw [Bk F.plain_set_update_loop _];show wpAny _ A.in1 (pyNext (.ref I)>>=_) _ _ s;refine A0 (Wq.done s _ _ hst fun s' hm=> ?_);show wpAny _ A.in1 (ret Value.none) _ _ s';refine A3 (hR s' es (hm.mono hsub) (hS.mv fun o e=>hm.heap S o hSw e) (en.mv fun p k g x e q=>hj_ q fun o e'=> ?_) mk);obtain⟨j,hj,ev⟩:=mk.from_ p _ e;simp only [Be,Bp] at ev;obtain⟨_,rfl⟩:=ev;exact hm.heap _ o (hwr j hj) e'
 |succ k ih=>
  intro i s es hk hi hst hS en mk hkk hR;have hlt:i<n:=by lia
  refine Bo F.entry_set_update_loop ?_;rw [Bk F.plain_set_update_loop _];show wpAny _ A.in1 (pyNext (.ref I)>>=_) _ _ s;refine A0 (Wq.item i s _ _ hlt hst fun v s' hP hst' hm=> ?_);obtain rfl:=hval i v hP;have hS':ma_ s'.heap S led es:=hS.mv fun o e=>hm.heap S o hSw e;have hkk':∀j,j<n->IsTupleKey (intKind prog w) s'.heap (kk j) (ad j):=fun j hj=>hj_ (hkk j hj) fun o e=>hm.heap _ o (hwr j hj) e;have en':Ent prog w s'.heap es:=en.mv fun p k g x e q=>hj_ q fun o e'=>by
   obtain⟨j,hj,ev⟩:=mk.from_ p _ e;simp only [Be,Bp] at ev;obtain⟨_,rfl⟩:=ev;exact hm.heap _ o (hwr j (by lia)) e'
  show wpAny _ A.in1 (holding [Value.ref (ad i)] (setAdd S (.ref (ad i)))>>=_) _ _ s';refine A0 (An ?_);unfold setAdd;refine An ?_;refine A0 (wpAny_pyHash_tuple hu (hkk' i hlt) ?_);refine po_ (s:={s' with toks:=s'.toks+((kk i).length+1)}) hS' en' (hkk' i hlt) hu (by have:=oJ_ en' mk (fun j hj=>hkk' j (by lia)) (hb.imp fun F hF=>⟨hF.1,fun j hj=>hF.2 j (by lia)⟩);lia) fun b h' es' hsb hS2 en2 c=> ?_;have hkS:∀j,j<n->ad j≠S:=by
   intro j hj e;obtain⟨o,items,m,ho,_,hd,_⟩:=hkk' j hj;obtain⟨ep,t,ho',_⟩:=hS';rw [e,ho',Av] at ho;subst ho;exact nomatch hd
  refine A3 ⟨Cz F.plain_set_update_loop _,ih (i+1) _ es' (by lia) hlt (Wq.frame _ s' _ _ hst' (Nat.le_add_right _ _) fun b hb o e=> ?_) hS2 en2 (mk.step en' (fun j hj=>hkk' j (by lia)) c) (fun j hj=>hj_ (hkk' j hj) fun o e=> ?_) fun s'' es'' hm'' hS'' en'' mk''=> ?_⟩
  .rw [hsb.2 b (fun h:b=S=>hSf (by rw [<-h];exact hb))];exact e
  .show h'.get? _=_;rw [hsb.2 _ (hkS j hj)];exact e
  .refine hR s'' es'' (Moved.trans Wq.gtrans ((hm.mono hsub).then_heap (Nat.le_add_right _ _) fun b o hb e=> ?_) hm'') hS'' en'' mk'';rw [hsb.2 b (fun h:b=S=>hb (by rw [h];exact BA))];exact e
set_option maxHeartbeats 3200000 in
theorem gy_ {l:Addr}{items:Array Value}{kk:Nat->List Int}{ad:Nat->Addr}{Q:Value->Shared->Prop}
  (hh:A.handled=none) (hu:A.units+8<cLine) (hl:s.heap.IsList l items) (hn:∃F:List (List Int),F.length<60/\∀i,i<items.size->kk i∈F)
  (hk:∀i,i<items.size->items[i]? =some (.ref (ad i))/\IsTupleKey (intKind prog w) s.heap (kk i) (ad i))
  (h:∀(h':Heap) (tk:Nat) (es:Array (Int×Value)),ma_ h' s.heap.objs.size (!w.params.followText "set-order") es->Ent prog w h' es->Made prog w kk ad items.size es->
   (∀b o,b<s.heap.objs.size->s.heap.get? b=some o->h'.get? b=some o)->Q (.ref s.heap.objs.size) {s with heap:=h',toks:=tk}):
  wpAny (model prog w) A (call (.type "set") [.ref l]) Q E s:=by
 obtain⟨c,tl,hmro⟩:=CV.mro;have hmade:=CV.made;have hsub:=CV.sub;refine wpAny_call (codeAny_of_tree ?_);show wpAny _ _ (callAny (.type "set") _) _ _ _;refine A3 ⟨Code.quiet_builtin _ (by ac_nf),Bo F.entry_type_call ?_⟩;rw [Around.under_plain (weight_type_call_type "set" [.ref l] []) rfl];have h1:=CV.notType;have h2:=CV.canCreate;have hct:=F.typeCall_set_1 (.ref l)
 repeat (any_goals (first|assumption|wp_step))
 refine codeAny_mono (oH_ (.ref l) (E:=E) (Q₁:=fun obj s₁=>obj= .ref s.heap.objs.size/\s₁={s with heap:=s.heap.push {cls:= .type "set",dict:=none,data:= .set #[] 0 (.fresh 0 0 (!w.params.followText "set-order"))}}) ⟨rfl,rfl⟩) fun r s₁ hr=> ?_;generalize (!w.params.followText "set-order")=led at h hr;cases r with
 |error e=>exact hr
 |ok fl=>
  cases fl with
  |ret obj=>
   obtain⟨rfl,rfl⟩:=hr;have hS:(s.heap.push {cls:= .type "set",dict:=none,data:= .set #[] 0 (.fresh 0 0 led)}).get? s.heap.objs.size=some {cls:= .type "set",dict:=none,data:= .set #[] 0 (.fresh 0 0 led)}:=AH _ rfl;have hT:Shared.TypeIs {s with heap:=s.heap.push {cls:= .type "set",dict:=none,data:= .set #[] 0 (.fresh 0 0 led)}} (.ref s.heap.objs.size) "set":=⟨_,hS,rfl⟩;have hli:=CV.init.lookup;have hbi:=CV.init.bind (.ref s.heap.objs.size)
   repeat (any_goals (first|assumption|wp_step))
   refine codeAny_mono (codeAny_call_builtin (R:=wants (fun r s₂=>r= .none/\∃h' tk es,s₂={s with heap:=h',toks:=tk}/\
     ma_ h' s.heap.objs.size led es/\Ent prog w h' es/\Made prog w kk ad items.size es/\
     (∀b o,b<s.heap.objs.size->s.heap.get? b=some o->h'.get? b=some o)) E) CV.init.plain F.entry_set_init (check_set_init_1 hT ?_)) fun r₂ s₂ hr₂=> ?_
   .obtain⟨ol,hol,hcl,nl,hdl⟩:=hl;obtain⟨ocls,odict,odata,oslots⟩:=ol;simp only at hcl hdl;subst hcl;subst hdl;have hol':(s.heap.push {cls:= .type "set",dict:=none,data:= .set #[] 0 (.fresh 0 0 led)}).get? l=some {cls:= .type "list",dict:=odict,data:= .seq items nl,slots:=oslots}:=AB _ hol;have hsls:=F.sub_list_set;have hslf:=F.sub_list_frozenset;have hne:(Value.type "list"==Value.type "dict")=false:=by decide
    have hl1:(s.heap.push {cls:= .type "set",dict:=none,data:= .set #[] 0 (.fresh 0 0 led)}).IsList l items:=⟨_,hol',rfl,nl,rfl⟩;unfold Builtin.«set.__init__» noKeywords Builtin.Frozenset.updateFrom;generalize hPI:pyIter=PI
    wp_walk
    subst hPI;refine wpAny_pyIter_list hl1 ?_;refine A0 (wpAny_runValue ?_);have hlS:l<s.heap.objs.size:=AF hol;have hh3:A.in1.in1.in1.handled=none:=by simp [hh]
    have hneI:l≠(s.heap.push {cls:= .type "set",dict:=none,data:= .set #[] 0 (.fresh 0 0 led)}).objs.size:=by
     rw [BU];exact AI (Ab hlS)
    have hSf:s.heap.objs.size∉[(s.heap.push {cls:= .type "set",dict:=none,data:= .set #[] 0 (.fresh 0 0 led)}).objs.size,l]:=by
     rw [BU];simp only [AN,BB,BC,CC,not_or];exact⟨AI (Bc _),C0 hlS⟩
    refine ke_ ((Walks.list hh3 _ l hneI items).toS) s.heap.objs.size
     hSf ?hu led kk ad ?hval ?hwr hn (items.size-0) 0 _ #[] (by lia) (AT _)
     ⟨⟨_,AH _ rfl,rfl,rfl⟩,(hl1.push _)⟩ ?hS0 ?hE0 ?hM0 ?hkk ?hR
    case hu=>show A.units+3<cLine;lia
    case hval=>
     intro i v hv;have hi:i<items.size:=c2_ hv;rw [(hk i hi).1,Av] at hv;exact hv.symm
    case hwr=>
     intro i hi;obtain⟨o,_,_,ho,_⟩:=(hk i hi).2;have:=AF ho;rw [BU];simp only [AN,BC,CC];exact AI (Ab this)
    case hS0=>exact⟨_,_,AB _ hS,mY_ led,rfl,rfl,by show 0*5<7*3;decide⟩
    case hE0=>exact⟨fun i hi=>absurd hi (by show¬i<0;lia),fun i j k b c g g' e=>by simp at e⟩
    case hM0=>exact⟨A5 0,fun p v e=>by simp at e,fun j hj=>absurd hj (by lia)⟩
    case hkk=>exact fun j hj=>hj_ (hk j hj).2 fun o e=>AB _ (AB _ e)
    case hR=>
     intro s' es' hm hS' en' mk';obtain⟨h',g',d',tk',os'⟩:=s';have eg:g'=s.gens:=hm.gens;have ed:d'=s.drawn:=hm.drawn;have eo:os'=s.os:=hm.os;subst eg;subst ed;subst eo;show wpAny _ _ _ _ _ _;refine A3 ?_;show wpAny _ _ (ret Value.none) _ _ _;refine A3 ⟨rfl,h',tk',es',rfl,hS',en',mk',fun b o hb e=> ?_⟩;have hb1:b≠s.heap.objs.size:=AI hb;have hb2:b≠(s.heap.push {cls:= .type "set",dict:=none,data:= .set #[] 0 (.fresh 0 0 led)}).objs.size:=by
      rw [BU];exact AI (Ab hb)
     exact hm.heap b o (by simp only [AN,BB,BC,CC,not_or];exact⟨hb1,hb2⟩) (AB _ (AB _ e))
   .cases r₂ with
    |error e=>exact hr₂
    |ok fl₂=>
     cases fl₂ with
     |ret r=>
      obtain⟨rfl,h',tk,es,rfl,hS',en',mk',hk'⟩:=hr₂
      repeat (any_goals (first|assumption|wp_step))
      exact h _ _ _ hS' en' mk' hk'
     |_=>exact hr₂.elim
  |_=>exact hr.elim
end
end L2
namespace L2
open PySem PySem.SetTable PySem.Spec PyProof.Rows PySem.W
section
variable {X:Cx}{pins:List (Addr×Obj)}{σ:St}{H:Hp}{s:Shared}
def p6_:List V->Hp->VK->Prop:=fun vs H Q=>∃(v:V) (xss:List (List Int)) (m:Nat),vs=[v]/\Is H (.l (xss.map tI)) v/\0<m/\(∀xs∈xss,xs.length=m)/\(∃F:List (List Int),F.length<60/\∀xs∈xss,xs∈F)/\
 ∀(yss:List (List Int)) (q:Addr) (H':Hp),yss.Nodup->(∀z,z∈yss↔z∈xss)->(∀i j,i<j->j<yss.length->ltI (yss.getD j []) (yss.getD i [])=false)->H q=none->ak_ H H'->Is H' (.l (yss.map tI)) (.ref q)->Q (.ref q) H'
theorem mz_ {e:Expr}{ta:TA}{p p2 pos pos2:Pos} (hu:X.A.units+8<cLine) (hh:X.A.handled=none) (hg:Gl X "sorted") (hm:X.mg "sorted"=none) (hg2:Gl X "set") (hm2:X.mg "set"=none)
  (ha:PA X [e] ta) (he:starEach [e] X.env=(false,eval e X.env)::starEach [] X.env:=by rfl)
  (he2:starEach [Expr.Call (.Name "set" p2) [e] [] pos2] X.env=(false,eval (Expr.Call (.Name "set" p2) [e] [] pos2) X.env)::starEach [] X.env:=by rfl):
  PE X (.Call (.Name "sorted" p) [.Call (.Name "set" p2) [e] [] pos2] [] pos) (tCB p6_ ta):=by
 intro pins s σ H Q I h;refine BV (cI_ I hg hm (by first|exact boot_sorted|rfl|ac_nf) ?_ (by decide) (by decide));refine Ci ?_ he2 (by rfl);rw [he2];show wpAny _ _ (spliced ((false,eval (Expr.Call (.Name "set" p2) [e] [] pos2) X.env)::backTo pos (starEach [] X.env))) _ _ s;refine Cf ?_;refine BV (cI_ I hg2 hm2 (by first|rfl|ac_nf) ?_ (by decide) (by decide));refine BG (thn (ha pos2 pins s σ H _ I h) fun us s1 ⟨vs,H1,I1,r1,q1⟩=> ?_) he (by rfl);obtain⟨v,xss,m,rfl,hv,hm',hne',⟨F,hF,hin⟩,q⟩:=q1;obtain⟨l,rs,rfl,hl,hi⟩:=dd_ hv;have hrs:rs.length=xss.length:=by rw [hi.length,A2]
 obtain⟨u,rfl,rx⟩:=dA_ r1;cases rx;obtain⟨its,r',pl,hz⟩:=I1.list (SqL.of (K:=X.K) hl);have ln:=r'.length;have g:∀i,∃a,i<xss.length->its[i]? =some (.ref a)/\rs[i]? =some (.ref a)/\H1 a=some (.tup ((xss.getD i []).map V.int)):=fun i=>by
  by_cases h:i<xss.length
  .have hr:i<rs.length:=by lia
   obtain⟨d,hd,h1⟩:=hi.of_get (A1 hr);rw [A6,A1 h] at hd;cases hd;obtain⟨a,ea,ha⟩:=g0_ h1;obtain⟨u,hu1,ru⟩:=r'.get (A1 hr);rw [ea] at ru;obtain rfl:u=Value.ref a:=ru;refine⟨a,fun _=>⟨hu1,by rw [A1 hr,ea], ?_⟩⟩;rw [AD,A1 h];exact ha
  .exact⟨0,fun c=>absurd c h⟩
 let ad:Nat->Addr:=fun i=>Classical.choose (g i)
 have hg:∀i,i<xss.length->its[i]? =some (.ref (ad i))/\rs[i]? =some (.ref (ad i))/\H1 (ad i)=some (.tup ((xss.getD i []).map V.int)):=fun i hi=>Classical.choose_spec (g i) hi;generalize ad=ad at hg;refine gy_ (kk:=fun i=>xss.getD i []) (ad:=ad) (items:=its.toArray) hh (by lia) pl.isList ⟨F,hF,fun i hi=>by
   rw [A8] at hi;refine hin _ ?_;rw [AD,A1 (show i<xss.length by lia)];exact By _⟩ (fun i hi=> ?_) fun h' tk es hS en mk hk=> ?_
 .rw [A8] at hi;have hg':=hg i (by lia);exact⟨by rw [List.getElem?_toArray];exact hg'.1,kk_ I1 (SqT.of hg'.2.2)⟩
 .have I2:Inv X pins σ H1 {s1 with heap:=h',toks:=tk}:=I1.kept fun b o e=>hk b o (AF e) e;refine A3 ?_;show wpAny _ _ (call (.builtin "sorted") [.ref s1.heap.objs.size]) _ _ {s1 with heap:=h',toks:=tk};obtain⟨ep,t,ho,tb,tl,tp,tr⟩:=hS;refine jI_ (iq_ (s:={s1 with heap:=h',toks:=tk}) (A:=X.A.in1) hh ho tb (by lia) tl tp fun h'' tk' vs hk' hsz hp=> ?_) fun vs s' g=>g;have hkey:∀j,j<its.toArray.size->IsTupleKey (intKind X.prog X.w) h' (xss.getD j []) (ad j):=fun j hj=>by
   rw [A8] at hj;exact kk_ I2 (SqT.of (hg j (by lia)).2.2)
  obtain⟨js,ev,lt,nd,all⟩:=iE_ en mk hkey hp;have I3:Inv X pins σ H1 {s1 with heap:=h'',toks:=tk'}:=I2.kept hk';have lt':∀j∈js,j<xss.length:=fun j hj=>by have:=lt j hj;rw [A8] at this;lia
  subst ev;have mem:∀z,z∈js.map (fun i=>xss.getD i [])↔z∈xss:=fun z=>by
   constructor
   .intro hz;obtain⟨j,hj,rfl⟩:=Aa.mp hz;rw [AD,A1 (lt' j hj)];exact By _
   .intro hz;obtain⟨j,hj,e⟩:=List.getElem_of_mem hz;have:=all j (by rw [A8];lia);rw [AD,A1 hj,e] at this;exact this
  have bound:(js.map fun i=>xss.getD i []).length<64:=by
   have:=f8_ nd (F:=F) fun z hz=>hin z ((mem z).mp hz);lia
  refine kt_ I3 (rs:=js.map fun j=>V.ref (ad j)) (xss:=js.map fun i=>xss.getD i []) (jg_ _ ad js fun j hj=>(hg j (lt' j hj)).2.2) (gG_ ad js) hm' (fun xs hx=>hne' xs ((mem xs).mp hx)) (by lia) (fun yss q' H' pm srt hq sm his=> ?_) X.A;exact q yss q' H' (pm.nodup_iff.mpr nd) (fun z=>by rw [pm.mem_iff];exact mem z) srt hq sm his
end
end L2
namespace Mine
open PySem L2 PyProof.Rows
def top (i:Nat):Stmt:=PySem.Challenge.pw_floorcurves_k65_from_the_least_degree.main.body.getD i (.Pass ⟨0,0,0,0⟩)
abbrev b2_:Stmt:=top 8
theorem h0_:FnScope ["thing"] ["thing"] (ab_ b2_):=⟨rfl,rfl,rfl,by ac_nf,rfl,by ac_nf,by ac_nf⟩
abbrev a6_:Stmt:=top 9
theorem eq_:FnScope ["thing","least","greatest"] ["thing","least","greatest"] (ab_ a6_):=⟨rfl,rfl,rfl,by ac_nf,rfl,by ac_nf,by ac_nf⟩
abbrev aw_:Stmt:=top 11
theorem bB_:FnScope ["numbers","kept"] ["numbers"] (ab_ aw_):=⟨rfl,rfl,rfl,by ac_nf,rfl,by ac_nf,by ac_nf⟩
abbrev a5_:Stmt:=top 12
theorem bh_:FnScope ["one","other","total","numbers","place","number"] ["one","other"] (ab_ a5_):=⟨rfl,rfl,rfl,by ac_nf,rfl,by ac_nf,by ac_nf⟩
abbrev aI_:Stmt:=top 13
theorem aF_:FnScope ["one","other","total","place","number","further","factor"] ["one","other"] (ab_ aI_):=⟨rfl,rfl,rfl,by ac_nf,rfl,by ac_nf,by ac_nf⟩
abbrev bK_:Stmt:=top 14
theorem gL_:FnScope ["numbers","place","more"] ["numbers","place","more"] (ab_ bK_):=⟨rfl,rfl,rfl,by ac_nf,rfl,by ac_nf,by ac_nf⟩
abbrev aR_:Stmt:=top 16
theorem aJ_:FnScope ["one","other","greater","lesser","rest"] ["one","other"] (ab_ aR_):=⟨rfl,rfl,rfl,by ac_nf,rfl,by ac_nf,by ac_nf⟩
abbrev b1_:Stmt:=top 17
theorem cq_:FnScope ["tops","bottom","divisor","top"] ["tops","bottom"] (ab_ b1_):=⟨rfl,rfl,rfl,by ac_nf,rfl,by ac_nf,by ac_nf⟩
abbrev es_:Stmt:=top 18
theorem hY_:FnScope ["tops","bottom","kept","divisor"] ["tops","bottom"] (ab_ es_):=⟨rfl,rfl,rfl,by ac_nf,rfl,by ac_nf,by ac_nf⟩
abbrev dS_:Stmt:=top 19
theorem hZ_:FnScope ["one","other","widened","other_widened"] ["one","other"] (ab_ dS_):=⟨rfl,rfl,rfl,by ac_nf,rfl,by ac_nf,by ac_nf⟩
abbrev dF_:Stmt:=top 20
theorem mq_:FnScope ["one","other"] ["one","other"] (ab_ dF_):=⟨rfl,rfl,rfl,by ac_nf,rfl,by ac_nf,by ac_nf⟩
abbrev dE_:Stmt:=top 21
theorem dh_:FnScope ["one","at","total","top","divisor"] ["one","at"] (ab_ dE_):=⟨rfl,rfl,rfl,by ac_nf,rfl,by ac_nf,by ac_nf⟩
abbrev b4_:Stmt:=top 22
theorem bn_:FnScope ["start","values","total","choosing","differences","taken"] ["start","values"] (ab_ b4_):=⟨rfl,rfl,rfl,by ac_nf,rfl,by ac_nf,by ac_nf⟩
abbrev fq_:Stmt:=top 24
theorem oq_:FnScope ["lift"] ["lift"] (ab_ fq_):=⟨rfl,rfl,rfl,by ac_nf,rfl,by ac_nf,by ac_nf⟩
abbrev dD_:Stmt:=top 25
theorem d9_:FnScope ["drawing","product","lift"] ["drawing"] (ab_ dD_):=⟨rfl,rfl,rfl,by ac_nf,rfl,by ac_nf,by ac_nf⟩
abbrev cO_:Stmt:=top 27
theorem di_:FnScope ["number","chosen","found","place"] ["number","chosen"] (ab_ cO_):=⟨rfl,rfl,rfl,by ac_nf,rfl,by ac_nf,by ac_nf⟩
abbrev bp_:Stmt:=top 29
theorem a4_:FnScope ["numbers","first","last","alike","found","here","choices","fuller","others"] ["numbers","first","last","alike"] (ab_ bp_):=⟨rfl,rfl,rfl,by ac_nf,rfl,by ac_nf,by ac_nf⟩
abbrev aK_:Stmt:=top 30
theorem av_:FnScope ["d","marks","known","mark","fuller","numbers","further","choices"] ["d","marks"] (ab_ aK_):=⟨rfl,rfl,rfl,by ac_nf,rfl,by ac_nf,by ac_nf⟩
abbrev cs_:Stmt:=top 32
theorem kC_:FnScope ["template"] ["template"] (ab_ cs_):=⟨rfl,rfl,rfl,by ac_nf,rfl,by ac_nf,by ac_nf⟩
abbrev bi_:Stmt:=top 33
theorem bX_:FnScope ["k","found","i","j"] ["k"] (ab_ bi_):=⟨rfl,rfl,rfl,by ac_nf,rfl,by ac_nf,by ac_nf⟩
abbrev cN_:Stmt:=top 34
theorem cD_:FnScope ["lifts","k","found","place","lift","rest"] ["lifts","k"] (ab_ cN_):=⟨rfl,rfl,rfl,by ac_nf,rfl,by ac_nf,by ac_nf⟩
abbrev aX_:Stmt:=top 35
theorem fa_:FnScope ["number","lifts"] ["number","lifts"] (ab_ aX_):=⟨rfl,rfl,rfl,by ac_nf,rfl,by ac_nf,by ac_nf⟩
abbrev aZ_:Stmt:=top 36
theorem cV_:FnScope ["lifts","between"] ["lifts"] (ab_ aZ_):=⟨rfl,rfl,rfl,by ac_nf,rfl,by ac_nf,by ac_nf⟩
abbrev br_:Stmt:=top 37
theorem gM_:FnScope ["k"] ["k"] (ab_ br_):=⟨rfl,rfl,rfl,by ac_nf,rfl,by ac_nf,by ac_nf⟩
abbrev et_:Stmt:=top 38
theorem or_:FnScope ["template","j"] ["template","j"] (ab_ et_):=⟨rfl,rfl,rfl,by ac_nf,rfl,by ac_nf,by ac_nf⟩
abbrev aY_:Stmt:=top 39
theorem fb_:FnScope ["template"] ["template"] (ab_ aY_):=⟨rfl,rfl,rfl,by ac_nf,rfl,by ac_nf,by ac_nf⟩
abbrev bJ_:Stmt:=top 40
theorem c6_:FnScope ["template","place","marks","j"] ["template","place"] (ab_ bJ_):=⟨rfl,rfl,rfl,by ac_nf,rfl,by ac_nf,by ac_nf⟩
abbrev bj_:Stmt:=top 41
theorem cr_:FnScope ["d","template","reached","heavy"] ["d","template"] (ab_ bj_):=⟨rfl,rfl,rfl,by ac_nf,rfl,by ac_nf,by ac_nf⟩
abbrev bL_:Stmt:=top 42
theorem bu_:FnScope ["d","k","found","crossings","template","place","counts"] ["d","k"] (ab_ bL_):=⟨rfl,rfl,rfl,by ac_nf,rfl,by ac_nf,by ac_nf⟩
abbrev cj_:Stmt:=top 43
theorem bv_:FnScope ["k","first","standing","known","key","total","crossings","place","behind","counts"] ["k","first","standing","known"] (ab_ cj_):=⟨rfl,rfl,rfl,by ac_nf,rfl,by ac_nf,by ac_nf⟩
abbrev aT_:Stmt:=top 44
theorem d4_:FnScope ["d","k"] ["d","k"] (ab_ aT_):=⟨rfl,rfl,rfl,by ac_nf,rfl,by ac_nf,by ac_nf⟩
abbrev aD_:Stmt:=top 45
theorem cE_:FnScope ["d","k"] ["d","k"] (ab_ aD_):=⟨rfl,rfl,rfl,by ac_nf,rfl,by ac_nf,by ac_nf⟩
abbrev bo_:Stmt:=top 47
theorem e9_:FnScope ["k"] ["k"] (ab_ bo_):=⟨rfl,rfl,rfl,by ac_nf,rfl,by ac_nf,by ac_nf⟩
abbrev aM_:Stmt:=top 48
theorem cy_:FnScope ["k","start"] ["k"] (ab_ aM_):=⟨rfl,rfl,rfl,by ac_nf,rfl,by ac_nf,by ac_nf⟩
abbrev bw_:Stmt:=top 49
theorem bY_:FnScope ["k","one","degree"] ["k"] (ab_ bw_):=⟨rfl,rfl,rfl,by ac_nf,rfl,by ac_nf,by ac_nf⟩
abbrev a8_:Stmt:=top 51
theorem er_:FnScope ["_law_script","_law_k"] ["_law_script","_law_k"] (ab_ a8_):=⟨rfl,rfl,rfl,by ac_nf,rfl,by ac_nf,by ac_nf⟩
abbrev b3_:Stmt:=top 52
theorem c7_:FnScope ["_law_cell","_law_place","_law_far"] ["_law_cell","_law_place"] (ab_ b3_):=⟨rfl,rfl,rfl,by ac_nf,rfl,by ac_nf,by ac_nf⟩
abbrev bx_:Stmt:=top 53
theorem fS_:FnScope ["_law_bag_here"] ["_law_bag_here"] (ab_ bx_):=⟨rfl,rfl,rfl,by ac_nf,rfl,by ac_nf,by ac_nf⟩
abbrev bz_:Stmt:=top 54
theorem bC_:FnScope ["_law_bag_here","_law_many","_law_found","_law_k"] ["_law_bag_here","_law_many"] (ab_ bz_):=⟨rfl,rfl,rfl,by ac_nf,rfl,by ac_nf,by ac_nf⟩
abbrev a7_:Stmt:=top 55
theorem cF_:FnScope ["_law_what","_law_k","e"] ["_law_what","_law_k"] (ab_ a7_):=⟨rfl,rfl,rfl,by ac_nf,rfl,by ac_nf,by ac_nf⟩
abbrev by_:Stmt:=top 56
theorem bZ_:FnScope ["_law_k","_law_d","_law_told","_law_total","_law_top"] ["_law_k","_law_d","_law_told"] (ab_ by_):=⟨rfl,rfl,rfl,by ac_nf,rfl,by ac_nf,by ac_nf⟩
abbrev fT_:Stmt:=top 57
theorem dR_:FnScope ["_law_script","_law_bag_here","_law_k","_law_start","_law_found","_law_d","_law_far","_law_odd"] ["_law_script"] (ab_ fT_):=⟨rfl,rfl,rfl,by ac_nf,rfl,by ac_nf,by ac_nf⟩
set_option genInjectivity false
set_option genSizeOfSpec false
structure Fns (K:W.Frag) (mg:Str->Option Value) where
 f_is_whole:Addr
 d_is_whole:FuncData
 f_need_between:Addr
 d_need_between:FuncData
 f_without_last_noughts:Addr
 d_without_last_noughts:FuncData
 f_sum_by_place:Addr
 d_sum_by_place:FuncData
 f_product_by_place:Addr
 d_product_by_place:FuncData
 f_with_more:Addr
 d_with_more:FuncData
 f_common_divisor:Addr
 d_common_divisor:FuncData
 f_lowering:Addr
 d_lowering:FuncData
 f_poly:Addr
 d_poly:FuncData
 f_plus:Addr
 d_plus:FuncData
 f_times:Addr
 d_times:FuncData
 f_value:Addr
 d_value:FuncData
 f_through:Addr
 d_through:FuncData
 f_lost:Addr
 d_lost:FuncData
 f_worth:Addr
 d_worth:FuncData
 f_choose:Addr
 d_choose:FuncData
 f_put_between:Addr
 d_put_between:FuncData
 f_how_many_orders:Addr
 d_how_many_orders:FuncData
 f_length:Addr
 d_length:FuncData
 f_long_lifts:Addr
 d_long_lifts:FuncData
 f_losing:Addr
 d_losing:FuncData
 f_lies_within:Addr
 d_lies_within:FuncData
 f_is_template:Addr
 d_is_template:FuncData
 f_templates:Addr
 d_templates:FuncData
 f_load:Addr
 d_load:FuncData
 f_least_place:Addr
 d_least_place:FuncData
 f_words_at:Addr
 d_words_at:FuncData
 f_last_place:Addr
 d_last_place:FuncData
 f_standings:Addr
 d_standings:FuncData
 f_counted:Addr
 d_counted:FuncData
 f_count_of_rows:Addr
 d_count_of_rows:FuncData
 f_count_by_templates:Addr
 d_count_by_templates:FuncData
 f_surely_from:Addr
 d_surely_from:FuncData
 f_polynomial_of:Addr
 d_polynomial_of:FuncData
 f_holds_from:Addr
 d_holds_from:FuncData
 f__law_cell_at:Addr
 d__law_cell_at:FuncData
 f__law_bag:Addr
 d__law_bag:FuncData
 f__law_mixed:Addr
 d__law_mixed:FuncData
 f__law_digit:Addr
 d__law_digit:FuncData
 f__law_refused:Addr
 d__law_refused:FuncData
 f__law_known:Addr
 d__law_known:FuncData
 f_law:Addr
 d_law:FuncData
 F_is_whole:Fun K "is_whole" "is_whole" b2_ f_is_whole d_is_whole
 B_is_whole:aN_ K d_is_whole ["thing"] []
 m_is_whole:mg "is_whole"=some (.ref f_is_whole)
 F_need_between:Fun K "need_between" "need_between" a6_ f_need_between d_need_between
 B_need_between:aN_ K d_need_between ["thing","least","greatest"] []
 m_need_between:mg "need_between"=some (.ref f_need_between)
 F_without_last_noughts:Fun K "without_last_noughts" "without_last_noughts" aw_ f_without_last_noughts d_without_last_noughts
 B_without_last_noughts:aN_ K d_without_last_noughts ["numbers"] []
 m_without_last_noughts:mg "without_last_noughts"=some (.ref f_without_last_noughts)
 F_sum_by_place:Fun K "sum_by_place" "sum_by_place" a5_ f_sum_by_place d_sum_by_place
 B_sum_by_place:aN_ K d_sum_by_place ["one","other"] []
 m_sum_by_place:mg "sum_by_place"=some (.ref f_sum_by_place)
 F_product_by_place:Fun K "product_by_place" "product_by_place" aI_ f_product_by_place d_product_by_place
 B_product_by_place:aN_ K d_product_by_place ["one","other"] []
 m_product_by_place:mg "product_by_place"=some (.ref f_product_by_place)
 F_with_more:Fun K "with_more" "with_more" bK_ f_with_more d_with_more
 B_with_more:aN_ K d_with_more ["numbers","place","more"] []
 m_with_more:mg "with_more"=some (.ref f_with_more)
 F_common_divisor:Fun K "common_divisor" "common_divisor" aR_ f_common_divisor d_common_divisor
 B_common_divisor:aN_ K d_common_divisor ["one","other"] []
 m_common_divisor:mg "common_divisor"=some (.ref f_common_divisor)
 F_lowering:Fun K "lowering" "lowering" b1_ f_lowering d_lowering
 B_lowering:aN_ K d_lowering ["tops","bottom"] []
 m_lowering:mg "lowering"=some (.ref f_lowering)
 F_poly:Fun K "poly" "poly" es_ f_poly d_poly
 B_poly:aN_ K d_poly ["tops","bottom"] []
 m_poly:mg "poly"=some (.ref f_poly)
 F_plus:Fun K "plus" "plus" dS_ f_plus d_plus
 B_plus:aN_ K d_plus ["one","other"] []
 m_plus:mg "plus"=some (.ref f_plus)
 F_times:Fun K "times" "times" dF_ f_times d_times
 B_times:aN_ K d_times ["one","other"] []
 m_times:mg "times"=some (.ref f_times)
 F_value:Fun K "value" "value" dE_ f_value d_value
 B_value:aN_ K d_value ["one","at"] []
 m_value:mg "value"=some (.ref f_value)
 F_through:Fun K "through" "through" b4_ f_through d_through
 B_through:aN_ K d_through ["start","values"] []
 m_through:mg "through"=some (.ref f_through)
 F_lost:Fun K "lost" "lost" fq_ f_lost d_lost
 B_lost:aN_ K d_lost ["lift"] []
 m_lost:mg "lost"=some (.ref f_lost)
 F_worth:Fun K "worth" "worth" dD_ f_worth d_worth
 B_worth:aN_ K d_worth ["drawing"] []
 m_worth:mg "worth"=some (.ref f_worth)
 F_choose:Fun K "choose" "choose" cO_ f_choose d_choose
 B_choose:aN_ K d_choose ["number","chosen"] []
 m_choose:mg "choose"=some (.ref f_choose)
 F_put_between:Fun K "put_between" "put_between" bp_ f_put_between d_put_between
 B_put_between:aN_ K d_put_between ["numbers","first","last","alike"] []
 m_put_between:mg "put_between"=some (.ref f_put_between)
 F_how_many_orders:Fun K "how_many_orders" "how_many_orders" aK_ f_how_many_orders d_how_many_orders
 B_how_many_orders:aN_ K d_how_many_orders ["d","marks"] []
 m_how_many_orders:mg "how_many_orders"=some (.ref f_how_many_orders)
 F_length:Fun K "length" "length" cs_ f_length d_length
 B_length:aN_ K d_length ["template"] []
 m_length:mg "length"=some (.ref f_length)
 F_long_lifts:Fun K "long_lifts" "long_lifts" bi_ f_long_lifts d_long_lifts
 B_long_lifts:aN_ K d_long_lifts ["k"] []
 m_long_lifts:mg "long_lifts"=some (.ref f_long_lifts)
 F_losing:Fun K "losing" "losing" cN_ f_losing d_losing
 B_losing:aN_ K d_losing ["lifts","k"] []
 m_losing:mg "losing"=some (.ref f_losing)
 F_lies_within:Fun K "lies_within" "lies_within" aX_ f_lies_within d_lies_within
 B_lies_within:aN_ K d_lies_within ["number","lifts"] []
 m_lies_within:mg "lies_within"=some (.ref f_lies_within)
 F_is_template:Fun K "is_template" "is_template" aZ_ f_is_template d_is_template
 B_is_template:aN_ K d_is_template ["lifts"] []
 m_is_template:mg "is_template"=some (.ref f_is_template)
 F_templates:Fun K "templates" "templates" br_ f_templates d_templates
 B_templates:aN_ K d_templates ["k"] []
 m_templates:mg "templates"=some (.ref f_templates)
 F_load:Fun K "load" "load" et_ f_load d_load
 B_load:aN_ K d_load ["template","j"] []
 m_load:mg "load"=some (.ref f_load)
 F_least_place:Fun K "least_place" "least_place" aY_ f_least_place d_least_place
 B_least_place:aN_ K d_least_place ["template"] []
 m_least_place:mg "least_place"=some (.ref f_least_place)
 F_words_at:Fun K "words_at" "words_at" bJ_ f_words_at d_words_at
 B_words_at:aN_ K d_words_at ["template","place"] []
 m_words_at:mg "words_at"=some (.ref f_words_at)
 F_last_place:Fun K "last_place" "last_place" bj_ f_last_place d_last_place
 B_last_place:aN_ K d_last_place ["d","template"] []
 m_last_place:mg "last_place"=some (.ref f_last_place)
 F_standings:Fun K "standings" "standings" bL_ f_standings d_standings
 B_standings:aN_ K d_standings ["d","k"] []
 m_standings:mg "standings"=some (.ref f_standings)
 F_counted:Fun K "counted" "counted" cj_ f_counted d_counted
 B_counted:aN_ K d_counted ["k","first","standing","known"] []
 m_counted:mg "counted"=some (.ref f_counted)
 F_count_of_rows:Fun K "count_of_rows" "count_of_rows" aT_ f_count_of_rows d_count_of_rows
 B_count_of_rows:aN_ K d_count_of_rows ["d","k"] []
 m_count_of_rows:mg "count_of_rows"=some (.ref f_count_of_rows)
 F_count_by_templates:Fun K "count_by_templates" "count_by_templates" aD_ f_count_by_templates d_count_by_templates
 B_count_by_templates:aN_ K d_count_by_templates ["d","k"] []
 m_count_by_templates:mg "count_by_templates"=some (.ref f_count_by_templates)
 F_surely_from:Fun K "surely_from" "surely_from" bo_ f_surely_from d_surely_from
 B_surely_from:aN_ K d_surely_from ["k"] []
 m_surely_from:mg "surely_from"=some (.ref f_surely_from)
 F_polynomial_of:Fun K "polynomial_of" "polynomial_of" aM_ f_polynomial_of d_polynomial_of
 B_polynomial_of:aN_ K d_polynomial_of ["k"] []
 m_polynomial_of:mg "polynomial_of"=some (.ref f_polynomial_of)
 F_holds_from:Fun K "holds_from" "holds_from" bw_ f_holds_from d_holds_from
 B_holds_from:aN_ K d_holds_from ["k"] []
 m_holds_from:mg "holds_from"=some (.ref f_holds_from)
 F__law_cell_at:Fun K "_law_cell_at" "_law_cell_at" a8_ f__law_cell_at d__law_cell_at
 B__law_cell_at:aN_ K d__law_cell_at ["_law_script","_law_k"] []
 m__law_cell_at:mg "_law_cell_at"=some (.ref f__law_cell_at)
 F__law_bag:Fun K "_law_bag" "_law_bag" b3_ f__law_bag d__law_bag
 B__law_bag:aN_ K d__law_bag ["_law_cell","_law_place"] []
 m__law_bag:mg "_law_bag"=some (.ref f__law_bag)
 F__law_mixed:Fun K "_law_mixed" "_law_mixed" bx_ f__law_mixed d__law_mixed
 B__law_mixed:aN_ K d__law_mixed ["_law_bag_here"] []
 m__law_mixed:mg "_law_mixed"=some (.ref f__law_mixed)
 F__law_digit:Fun K "_law_digit" "_law_digit" bz_ f__law_digit d__law_digit
 B__law_digit:aN_ K d__law_digit ["_law_bag_here","_law_many"] []
 m__law_digit:mg "_law_digit"=some (.ref f__law_digit)
 F__law_refused:Fun K "_law_refused" "_law_refused" a7_ f__law_refused d__law_refused
 B__law_refused:aN_ K d__law_refused ["_law_what","_law_k"] []
 m__law_refused:mg "_law_refused"=some (.ref f__law_refused)
 F__law_known:Fun K "_law_known" "_law_known" by_ f__law_known d__law_known
 B__law_known:aN_ K d__law_known ["_law_k","_law_d","_law_told"] []
 m__law_known:mg "_law_known"=some (.ref f__law_known)
 F_law:Fun K "law" "law" fT_ f_law d_law
 B_law:aN_ K d_law ["_law_script"] []
 m_law:mg "law"=some (.ref f_law)
 n_isinstance:mg "isinstance"=none
 n_int:mg "int"=none
 n_bool:mg "bool"=none
 n_list:mg "list"=none
 n_max:mg "max"=none
 n_enumerate:mg "enumerate"=none
 n_len:mg "len"=none
 n_abs:mg "abs"=none
 n_reversed:mg "reversed"=none
 n_zip:mg "zip"=none
 n_range:mg "range"=none
 n_sorted:mg "sorted"=none
 n_sum:mg "sum"=none
 n_tuple:mg "tuple"=none
 n_set:mg "set"=none
 n_any:mg "any"=none
 n_all:mg "all"=none
 n_ValueError:mg "ValueError"=none
 c_NoBound:Addr
 m_NoBound:mg "NoBound"=some (.ref c_NoBound)
 c_NoNumber:Addr
 m_NoNumber:mg "NoNumber"=some (.ref c_NoNumber)
 c_CurveError:Addr
 m_CurveError:mg "CurveError"=some (.ref c_CurveError)
 c_NoDrawing:Addr
 m_NoDrawing:mg "NoDrawing"=some (.ref c_NoDrawing)
 c_NoEnds:Addr
 m_NoEnds:mg "NoEnds"=some (.ref c_NoEnds)
 c_NoText:Addr
 m_NoText:mg "NoText"=some (.ref c_NoText)
 x_NoBound:W.excIn K c_NoBound bmV "ValueError.__new__"=true
 X_NoBound:XC K c_NoBound
 x_NoNumber:W.excIn K c_NoNumber bmV "ValueError.__new__"=true
 X_NoNumber:XC K c_NoNumber
 e_NoBound_CurveError:W.exmOne K (.ref c_NoBound) (.ref c_CurveError)=some true
 e_NoNumber_CurveError:W.exmOne K (.ref c_NoNumber) (.ref c_CurveError)=some true
 k_NoBound_NoBound:W.kitOne K (.ref c_NoBound) (.ref c_NoBound)=some true
 k_NoBound_ValueError:W.kitOne K (.ref c_NoBound) (.type "ValueError")=some true
 k_NoNumber_NoBound:W.kitOne K (.ref c_NoNumber) (.ref c_NoBound)=some false
 k_NoNumber_ValueError:W.kitOne K (.ref c_NoNumber) (.type "ValueError")=some true
 ks_NoBound_0:W.kitAny K (.ref c_NoBound) [(.ref c_NoDrawing),(.ref c_NoEnds),(.ref c_NoNumber),(.ref c_NoText)]=some false
 ks_NoNumber_1:W.kitAny K (.ref c_NoNumber) [(.ref c_NoDrawing),(.ref c_NoEnds),(.ref c_NoNumber),(.ref c_NoText)]=some true
def si_ (ns:List Int) (n:Nat):List Nat:=(List.range n).filter fun k=>decide (ns.getD k 0≠0)
theorem in_ {ns cs:List Int}{b:Nat}{z:Int} (h:ns=cs++[z]++List.replicate b 0) (hz:z=0):ns=cs++List.replicate (b+1) 0:=by
 rw [h,hz,Aj];simp
def aL_:List Int->Nat->List Int->List Int
 |[],_,_=>[]
 |t::ts,p+1,zs=>t::aL_ ts p zs
 |t::ts,0,[]=>t::ts
 |t::ts,0,z::zs=>(t+z)::aL_ ts 0 zs
theorem aq_:∀(ts:List Int) (p:Nat) (zs:List Int),(aL_ ts p zs).length=ts.length
 |[],_,_=>rfl
 |t::ts,p+1,zs=>by simp [aL_,aq_ ts p zs]
 |t::ts,0,[]=>rfl
 |t::ts,0,z::zs=>by simp [aL_,aq_ ts 0 zs]
theorem e6_:∀(ts:List Int) (p:Nat),aL_ ts p []=ts
 |[],_=>rfl
 |t::ts,p+1=>by simp [aL_,e6_ ts p]
 |t::ts,0=>rfl
theorem cS_:∀(ts:List Int) (p:Nat) (ws:List Int) (z:Int),p+ws.length<ts.length->(aL_ ts p ws).set (p+ws.length) ((aL_ ts p ws).getD (p+ws.length) 0+z)=aL_ ts p (ws++[z])
 |[],_,_,_,h=>by simp at h
 |t::ts,p+1,ws,z,h=>by
  have:=cS_ ts p ws z (by simp at h;lia);rw [show p+1+ws.length=p+ws.length+1 by lia];simp only [aL_,List.set_cons_succ,Cv];rw [this]
 |t::ts,0,[],z,h=>by
  cases ts<;>simp [aL_]
 |t::ts,0,w::ws,z,h=>by
  have:=cS_ ts 0 ws z (by simp at h⊢;lia);rw [Nat.zero_add] at this;simp only [aL_,Ag,Nat.zero_add,List.set_cons_succ,Cv,List.cons_append];rw [this]
def cv (xs ys:List Int):Nat->List Int
 |0=>List.replicate (xs.length+ys.length) 0
 |i+1=>aL_ (cv xs ys i) i (ys.map (xs.getD i 0* ·))
theorem cK_ (xs ys:List Int):∀i,(cv xs ys i).length=xs.length+ys.length
 |0=>by simp [cv]
 |i+1=>by rw [cv,aq_,cK_ xs ys i]
def fO_ (xs ys:List Int):List Int:=aL_ (aL_ (List.replicate (max xs.length ys.length) 0) 0 xs) 0 ys
def gz (zs:List Int) (k:Int):Int:=if 0<=k then zs.getD k.toNat 0 else 0
theorem eW_ (zs:List Int) (i:Nat):gz zs (i:Int)=zs.getD i 0:=by
 unfold gz;rw [A9 (by lia),AU]
theorem lI_ {zs:List Int}{k:Int} (h:k<0):gz zs k=0:=by
 unfold gz;rw [A7 (by lia)]
theorem nK_ {zs:List Int}{k:Int} (h:(zs.length:Int)<=k):gz zs k=0:=by
 unfold gz;split
 .rw [List.getD,List.getElem?_eq_none (by lia)];rfl
 .rfl
theorem eV_ (k:Int):gz [] k=0:=by
 unfold gz;split<;>simp
theorem ch_ (x:Int) (xs:List Int) (k:Int):gz (x::xs) k=(if k=0 then x else 0)+gz xs (k-1):=by
 by_cases h:k<0
 .rw [lI_ h,lI_ (by lia),A7 (by lia)];rfl
 .obtain⟨n,rfl⟩:∃n:Nat,k=n:=⟨k.toNat,by lia⟩;cases n with
  |zero=>rw [eW_,A9 (by lia),lI_ (by lia)];simp
  |succ n=>
   rw [eW_,A7 (by lia),show((n+1:Nat):Int)-1=(n:Int) by lia,eW_];simp
theorem lJ_ (xs ys:List Int) (k:Int):gz (xs++ys) k=gz xs k+gz ys (k-xs.length):=by
 induction xs generalizing k with
 |nil=>rw [eV_,List.nil_append];simp
 |cons x xs ih=>
  rw [List.cons_append,ch_,ch_,ih];rw [show k-1-(xs.length:Int)=k-((x::xs).length:Int) by simp;lia];lia
theorem jm_ (n:Nat) (k:Int):gz (List.replicate n 0) k=0:=by
 induction n generalizing k with
 |zero=>exact eV_ k
 |succ n ih=>rw [Aj,ch_,ih];split<;>rfl
theorem eX_:∀(ts:List Int) (p:Nat) (zs:List Int) (k:Int),p+zs.length<=ts.length->gz (aL_ ts p zs) k=gz ts k+gz zs (k-p)
 |[],p,zs,k,h=>by
  have:zs=[]:=BD.mp (by rw [List.length_nil] at h;lia);rw [this,eV_];simp [aL_,eV_]
 |t::ts,p+1,zs,k,h=>by
  rw [aL_,ch_,ch_,eX_ ts p zs (k-1) (by simp at h;lia),show k-1-(p:Int)=k-((p+1:Nat):Int) by lia];lia
 |t::ts,0,[],k,h=>by
  rw [aL_,eV_];simp
 |t::ts,0,z::zs,k,h=>by
  rw [aL_,ch_,ch_,eX_ ts 0 zs (k-1) (by simp at h⊢;lia),show k-((0:Nat):Int)=k by lia,ch_ z,show k-1-((0:Nat):Int)=k-1 by lia];split<;>lia
theorem bN_ (x:Int) (ys:List Int) (k:Int):gz (ys.map (x* ·)) k=x*gz ys k:=by
 induction ys generalizing k with
 |nil=>rw [List.map_nil,eV_,Int.mul_zero]
 |cons y ys ih=>
  rw [AW,ch_,ch_,ih,Int.mul_add];split
  .rfl
  .rw [Int.mul_zero]
def cz:List Int->List Int->Int->Int
 |[],_,_=>0
 |x::xs,ys,k=>x*gz ys k+cz xs ys (k-1)
theorem pf_ (xs:List Int) (x:Int) (ys:List Int) (k:Int):cz (xs++[x]) ys k=cz xs ys k+x*gz ys (k-xs.length):=by
 induction xs generalizing k with
 |nil=>simp [cz]
 |cons y xs ih=>
  rw [List.cons_append,cz,cz,ih,show k-1-(xs.length:Int)=k-((y::xs).length:Int) by simp;lia];lia
theorem qJ_ (xs ys:List Int) (k:Int):∀i,i<=xs.length->gz (cv xs ys i) k=cz (xs.take i) ys k
 |0,_=>by rw [cv,jm_,List.take_zero];rfl
 |i+1,h=>by
  have e:xs.take (i+1)=xs.take i++[xs.getD i 0]:=by
   rw [AM,A1 (by lia)];simp [List.getD,show i<xs.length by lia]
  rw [cv,eX_ _ _ _ _ (by rw [cK_,A2];lia),qJ_ xs ys k i (by lia),bN_,e,pf_,Af,CQ (by lia)]
def Kp (ns ks:List Int):Prop:=(∃b:Nat,ns=ks++List.replicate b 0)/\(ks=[]\/ks.getLast? ≠some 0)
theorem Kp.coef {ns ks:List Int} (h:Kp ns ks) (k:Int):gz ns k=gz ks k:=by
 obtain⟨⟨b,e⟩,_⟩:=h;rw [e,lJ_,jm_];lia
theorem Kp.len {ns ks:List Int} (h:Kp ns ks):ks.length<=ns.length:=by
 obtain⟨⟨b,e⟩,_⟩:=h;rw [e,AO];lia
theorem Kp.mem {ns ks:List Int} (h:Kp ns ks):∀x∈ks,x∈ns:=fun x hx=>by
 obtain⟨⟨b,e⟩,_⟩:=h;rw [e];simp [hx]
theorem Kp.le {ns ks ms js:List Int} (h:Kp ns ks) (h':Kp ms js) (e:∀k,gz ns k=gz ms k):ks.length<=js.length:=by
 rcases BP js.length ks.length with q|q
 .exfalso;have e1:=e ((ks.length:Int)-1);rw [h.coef,h'.coef,nK_ (zs:=js) (by lia)] at e1;have pos:0<ks.length:=by lia
  rw [show(ks.length:Int)-1=((ks.length-1:Nat):Int) by lia,eW_,List.getD] at e1;rcases h.2 with z|z
  .rw [z] at pos;simp at pos
  .refine z ?_;rw [List.getLast?_eq_getElem?,A1 (by lia)];rw [A1 (by lia)] at e1;exact BW some e1
 .exact q
theorem Kp.same {ns ks ms js:List Int} (h:Kp ns ks) (h':Kp ms js) (e:∀k,gz ns k=gz ms k):ks=js:=by
 have l1:=h.le h' e;have l2:=h'.le h fun k=>(e k).symm;refine List.ext_getElem (by lia) fun i p q=> ?_;have:=e (i:Int);rw [h.coef,h'.coef,eW_,eW_] at this;simpa [List.getD,p,q] using this
def dc_ (b:Nat) (ts:List Int):Nat:=ts.foldl (fun g t=>Nat.gcd g t.natAbs) b
theorem du_ (b:Nat) (ts:List Int):dc_ b ts∣b:=by
 unfold dc_;induction ts generalizing b with
 |nil=>exact Nat.dvd_refl b
 |cons t ts ih=>exact Nat.dvd_trans (ih (Nat.gcd b t.natAbs)) (Nat.gcd_dvd_left ..)
theorem lK_ (b:Nat) (ts:List Int) (t:Int):dc_ b (ts++[t])=Nat.gcd (dc_ b ts) t.natAbs:=by
 unfold dc_;rw [List.foldl_append];rfl
theorem ef_ {b:Nat} (h:0<b) (ts:List Int):0<dc_ b ts:=Nat.pos_of_dvd_of_pos (du_ b ts) h
theorem ih_ {b:Nat} (h:0<b) (ts:List Int):dc_ b ts<=b:=Nat.le_of_dvd h (du_ b ts)
def Lo (ns:List Int) (b:Int) (zs:List Int) (bt:Int):Prop:=∃ks,Kp ns ks/\zs=ks.map (fun t=>t.fdiv (dc_ b.natAbs ks:Int))/\bt=b.fdiv (dc_ b.natAbs ks:Int)
theorem lN_ {t B:Int}{g:Nat} (hg:0<g) (h: -B<=t/\t<=B): -B<=t.fdiv (g:Int)/\t.fdiv (g:Int)<=B:=by
 have hg':(0:Int)<g:=by lia
 rw [BY _ (by lia:(0:Int)<=g)];constructor
 .rcases(by lia:0<=t\/t<0) with z|z
  .have:=Int.ediv_nonneg z (by lia:(0:Int)<=g);lia
  .have:t<=t/(g:Int):=by
    rw [Int.le_ediv_iff_mul_le hg'];obtain⟨n,rfl⟩:∃n:Nat,t= -(n:Int):=⟨t.natAbs,by lia⟩;have h1:n<=n*g:=Nat.le_mul_of_pos_right n hg;rw [Int.neg_mul];have h2:((n*g:Nat):Int)=(n:Int)*(g:Int):=Int.natCast_mul ..
    lia
   lia
 .rcases(by lia:0<=t\/t<0) with z|z
  .have:=Int.ediv_le_self (g:Int) z;lia
  .have:=Int.ediv_neg_of_neg_of_pos z hg';lia
abbrev Bd (B:Int) (l:List Int):Prop:=∀x∈l,-B<=x/\x<=B
theorem Bd.mono {A B:Int}{l:List Int} (h:Bd A l) (e:A<=B):Bd B l:=fun x hx=>by have:=h x hx;lia
theorem dz_ {A B:Int} (hA:0<=A) (hB:0<=B):∀(ts:List Int) (p:Nat) (zs:List Int),Bd A ts->Bd B zs->Bd (A+B) (aL_ ts p zs)
 |[],_,_,_,_=>by intro x hx;simp [aL_] at hx
 |t::ts,p+1,zs,h1,h2=>by
  intro x hx;rw [aL_] at hx;rcases AN.mp hx with e|e
  .have:=h1 t (by simp);lia
  .exact dz_ hA hB ts p zs (fun y hy=>h1 y (by simp [hy])) h2 x e
 |t::ts,0,[],h1,h2=>by
  intro x hx;rw [aL_] at hx;have:=h1 x hx;lia
 |t::ts,0,z::zs,h1,h2=>by
  intro x hx;rw [aL_] at hx;rcases AN.mp hx with e|e
  .have a1:=h1 t (by simp);have a2:=h2 z (by simp);lia
  .exact dz_ hA hB ts 0 zs (fun y hy=>h1 y (by simp [hy])) (fun y hy=>h2 y (by simp [hy])) x e
theorem nr_ (n:Nat):Bd 0 (List.replicate n 0):=fun x hx=>by
 rw [List.eq_of_mem_replicate hx];decide
theorem qs_ {x y:Int}{A B:Nat} (hx: -(A:Int)<=x/\x<=A) (hy: -(B:Int)<=y/\y<=B): -((A*B:Nat):Int)<=x*y/\x*y<=((A*B:Nat):Int):=by
 have h:(x*y).natAbs<=A*B:=by
  rw [Cd];exact Bq (by lia) (by lia)
 lia
def cvA (n:Nat) (xs ys:List Int):Nat->List Int
 |0=>List.replicate n 0
 |i+1=>aL_ (cvA n xs ys i) i (ys.map (xs.getD i 0* ·))
theorem nU_ {n:Nat}{xs ys:List Int}{A B:Nat} (h1:Bd A xs) (h2:Bd B ys):∀i:Nat,i<=xs.length->Bd ((i*(A*B):Nat):Int) (cvA n xs ys i)
 |0,_=>by
  rw [Nat.zero_mul];exact nr_ n
 |i+1,h=>by
  have:=dz_ (A:=((i*(A*B):Nat):Int)) (B:=((A*B:Nat):Int)) (by lia) (by lia) (cvA n xs ys i) i (ys.map (xs.getD i 0* ·)) (nU_ h1 h2 i (by lia)) fun x hx=>by
   obtain⟨y,hy,rfl⟩:=Aa.mp hx;exact qs_ (h1 _ (by simp [List.getD,show i<xs.length by lia])) (h2 y hy)
  rw [cvA];refine this.mono ?_;rw [Nat.succ_mul];lia
def hor (a:Int) (l:List Int):Int:=l.foldl (fun s t=>s*a+t) 0
def sQ_ (a:Int):List Int->Int->Int
 |[],_=>0
 |t::ts,p=>t*p+sQ_ a ts (p*a)
theorem ds_ (a:Int) (l:List Int) (t:Int):hor a (l++[t])=hor a l*a+t:=by
 unfold hor;rw [List.foldl_append];rfl
theorem nI_ {a:Int}{l:List Int} (ha:a.natAbs<=2^67) (hl:∀x∈l,x.natAbs<=2^87):∀i,i<=l.length->(hor a (l.take i)).natAbs<=2^(100*i)
 |0,_=>by simp [hor]
 |i+1,h=>by
  have e:l.take (i+1)=l.take i++[l[i]]:=by
   rw [AM,A1 (by lia)];rfl
  rw [e,ds_];have h1:=nI_ ha hl i (by lia);have h2:=hl l[i] (by simp);have h3:(hor a (l.take i)*a).natAbs<=2^(100*i)*2^67:=by
   rw [Cd];exact Bq h1 ha
  have h4:2^87<=2^(100*i)*2^87:=Nat.le_mul_of_pos_left _ (Nat.pow_pos (by decide));have h5:2^(100*(i+1))=2^(100*i)*2^100:=by rw [Nat.mul_add,Nat.pow_add]
  have h6:2^(100*i)*2^67+2^(100*i)*2^87<=2^(100*i)*2^100:=by
   rw [<-Nat.mul_add];exact Nat.mul_le_mul_left _ (by decide)
  have h7:=Int.natAbs_add_le (hor a (l.take i)*a) l[i];lia
theorem cA_ {x n:Nat} (h:x<=2^n) (hn:n<4096):x<2^4096:=Br h (Cm (by decide) hn)
def Vl (s b:Int) (x y:Int):Prop:=x=s.fdiv (Nat.gcd b.natAbs s.natAbs:Int)/\y=b.fdiv (Nat.gcd b.natAbs s.natAbs:Int)
theorem mW_ (x y:Nat):Nat.gcd y (x%y)=Nat.gcd x y:=by
 rw [Nat.gcd_comm x y,Nat.gcd_rec y x,Nat.gcd_comm]
theorem Lo.len {ns zs:List Int}{b bt:Int} (h:Lo ns b zs bt):zs.length<=ns.length:=by
 obtain⟨ks,k1,k2,_⟩:=h;rw [k2,A2];exact k1.len
def ev:List Int->Int->Int
 |[],_=>0
 |t::ts,x=>t+x*ev ts x
theorem eZ_ (x:Int):∀xs ys:List Int,ev (xs++ys) x=ev xs x+x^xs.length*ev ys x
 |[],ys=>by simp [ev]
 |t::ts,ys=>by
  rw [List.cons_append,ev,ev,eZ_ x ts ys,Ag,Cc]
  grind
theorem jq_ (x:Int):∀n:Nat,ev (List.replicate n 0) x=0
 |0=>rfl
 |n+1=>by rw [Aj,ev,jq_ x n];simp
theorem eY_ (c x:Int):∀xs:List Int,ev (xs.map (c* ·)) x=c*ev xs x
 |[]=>by simp [ev]
 |t::ts=>by rw [AW,ev,ev,eY_ c x ts];grind
theorem ik_ (c x:Int):∀xs:List Int,ev (xs.map (· *c)) x=ev xs x*c
 |[]=>by simp [ev]
 |t::ts=>by rw [AW,ev,ev,ik_ c x ts];grind
theorem fH_ (x:Int):∀(ts:List Int) (p:Nat) (zs:List Int),p+zs.length<=ts.length->ev (aL_ ts p zs) x=ev ts x+x^p*ev zs x
 |[],p,zs,h=>by
  have:zs=[]:=by
   cases zs with
   |nil=>rfl
   |cons _ _=>simp at h
  subst this;simp [aL_,ev]
 |t::ts,p+1,zs,h=>by
  rw [aL_,ev,ev,fH_ x ts p zs (by simp at h;lia),Cc]
  grind
 |t::ts,0,[],h=>by simp [aL_,ev]
 |t::ts,0,z::zs,h=>by
  rw [aL_,ev,ev,ev,fH_ x ts 0 zs (by simp at h⊢;lia)];simp only [Int.pow_zero]
  grind
theorem ij_ (x:Int) (xs ys:List Int):ev (fO_ xs ys) x=ev xs x+ev ys x:=by
 unfold fO_;rw [fH_ x _ 0 ys (by rw [aq_,Am];lia),fH_ x _ 0 xs (by rw [Am];lia),jq_];simp
theorem qM_ (x:Int) (xs ys:List Int):∀i,i<=xs.length->ev (cv xs ys i) x=ev (xs.take i) x*ev ys x
 |0,_=>by simp [cv,jq_,ev]
 |i+1,h=>by
  have hi:i<xs.length:=by lia
  rw [cv,fH_ x _ i _ (by rw [cK_,A2];lia),qM_ x xs ys i (by lia),eY_];have e:xs.take (i+1)=xs.take i++[xs.getD i 0]:=by rw [AM,List.getD,A1 hi];rfl
  rw [e,eZ_,Af,CQ (by lia)];simp only [ev]
  grind
theorem lO_ (x:Int) (xs ys:List Int):ev (cv xs ys xs.length) x=ev xs x*ev ys x:=by rw [qM_ x xs ys _ (A5 _),AZ]
theorem fD_ (x:Int):∀zs:List Int,hor x zs.reverse=ev zs x
 |[]=>rfl
 |t::ts=>by rw [List.reverse_cons,ds_,fD_ x ts,ev];grind
theorem jp_:∀{ts:List Int}{b:Nat}{t:Int},t∈ts->dc_ b ts∣t.natAbs
 |u::ts,b,t,h=>by
  show dc_ (Nat.gcd b u.natAbs) ts∣t.natAbs;rcases AN.mp h with e|e
  .subst e;exact Nat.dvd_trans (du_ _ ts) (Nat.gcd_dvd_right ..)
  .exact jp_ e
theorem dt_ (g:Nat):∀(ts:List Int) (b:Nat),dc_ (g*b) (ts.map ((g:Int)* ·))=g*dc_ b ts
 |[],b=>rfl
 |t::ts,b=>by
  show dc_ (Nat.gcd (g*b) ((g:Int)*t).natAbs) (ts.map ((g:Int)* ·))=g*dc_ (Nat.gcd b t.natAbs) ts;rw [Cd,Int.natAbs_natCast,Nat.gcd_mul_left];exact dt_ g ts _
theorem mX_ (ts:List Int):dc_ 1 ts=1:=Nat.dvd_one.mp (du_ 1 ts)
theorem lf_ {f:Int->Int}:∀{l:List Int},(∀t∈l,f t=t)->l.map f=l
 |[],_=>rfl
 |t::ts,h=>by rw [AW,h t (by simp),lf_ fun u hu=>h u (by simp [hu])]
def Low (zs:List Int) (b:Int):Prop:=1<=b/\dc_ b.natAbs zs=1/\(zs=[]\/zs.getLast? ≠some 0)
theorem Lo.back {ns zs:List Int}{b bt:Int} (h:Lo ns b zs bt) (hb:0<b):∃(ks:List Int) (g:Nat),0<g/\Kp ns ks/\ks=zs.map ((g:Int)* ·)/\b=(g:Int)*bt/\g=dc_ b.natAbs ks:=by
 obtain⟨ks,k1,e1,e2⟩:=h;have hp:0<b.natAbs:=by lia
 have gp:=ef_ hp ks;refine⟨ks,dc_ b.natAbs ks,gp,k1, ?_, ?_,rfl⟩
 .rw [e1,Bf];refine(lf_ fun t ht=> ?_).symm;have d:((dc_ b.natAbs ks:Nat):Int)∣t:=D6.mpr (jp_ ht);show((dc_ b.natAbs ks:Nat):Int)*t.fdiv ((dc_ b.natAbs ks:Nat):Int)=t;rw [BY _ (by lia)];exact Cp d
 .rw [e2];have d:((dc_ b.natAbs ks:Nat):Int)∣b:=D6.mpr (du_ _ _);rw [BY _ (by lia)];exact(Cp d).symm
theorem Kp.ev {ns ks:List Int} (h:Kp ns ks) (x:Int):ev ns x=Mine.ev ks x:=by
 obtain⟨⟨b,e⟩,_⟩:=h;rw [e,eZ_,jq_];simp
theorem Lo.ev {ns zs:List Int}{b bt:Int} (h:Lo ns b zs bt) (hb:0<b) (x:Int):Mine.ev zs x*b=Mine.ev ns x*bt:=by
 obtain⟨ks,g,gp,k1,e1,e2,_⟩:=h.back hb;rw [k1.ev x,e1,eY_,e2]
 grind
theorem gm_ {f:Int->Int}{zs:List Int}:(zs.map f).getLast? =zs.getLast?.map f:=by rw [List.getLast?_map]
theorem Lo.low {ns zs:List Int}{b bt:Int} (h:Lo ns b zs bt) (hb:0<b):Low zs bt:=by
 obtain⟨ks,g,gp,k1,e1,e2,e3⟩:=h.back hb;have bp:0<bt:=by
  have:(0:Int)<(g:Int)*bt:=by lia
  rcases Int.lt_or_le 0 bt with q|q
  .exact q
  .have:=Int.mul_le_mul_of_nonneg_left q (show(0:Int)<=g by lia);lia
 refine⟨by lia, ?_, ?_⟩
 .have e4:b.natAbs=g*bt.natAbs:=by rw [e2,Cd,Int.natAbs_natCast]
  rw [e1,e4,dt_] at e3;have:g*1=g*dc_ bt.natAbs zs:=by rw [Nat.mul_one];exact e3
  exact(Nat.eq_of_mul_eq_mul_left gp this).symm
 .rcases k1.2 with z|z
  .left;rw [e1] at z;exact List.map_eq_nil_iff.mp z
  .right;intro q;refine z ?_;rw [e1,gm_,q];simp
def bin:Nat->Nat->Nat
 |_,0=>1
 |0,_+1=>0
 |m+1,r+1=>bin m r+bin m (r+1)
theorem dw_ (m:Nat):bin m 0=1:=by cases m<;>rfl
theorem ek_:∀(m i:Nat),((i:Int)+1)*(bin m (i+1):Int)=((m:Int)-(i:Int))*(bin m i:Int)
 |0,0=>by simp [bin]
 |0,i+1=>by simp [bin]
 |m+1,0=>by
  have:=ek_ m 0;rw [dw_] at this⊢;rw [show bin (m+1) (0+1)=bin m 0+bin m (0+1) from rfl,dw_];simp at this⊢;lia
 |m+1,i+1=>by
  have h1:=ek_ m i;have h2:=ek_ m (i+1);rw [bin,bin];simp only [Int.natCast_add,Int.natCast_one] at*
  grind
def dl (v:Nat->Int):Nat->Nat->Int
 |0,j=>v j
 |r+1,j=>dl v r (j+1)-dl v r j
def sm (f:Nat->Int):Nat->Int
 |0=>0
 |n+1=>sm f n+f n
theorem hX_ (f:Nat->Int):∀n,sm f (n+1)=f 0+sm (fun r=>f (r+1)) n
 |0=>by simp [sm]
 |n+1=>by rw [sm,hX_ f n,sm];lia
theorem no_ (f g:Nat->Int):∀n,sm (fun r=>f r+g r) n=sm f n+sm g n
 |0=>rfl
 |n+1=>by simp only [sm];rw [no_ f g n];lia
theorem fQ_ {f g:Nat->Int}:∀n,(∀r,r<n->f r=g r)->sm f n=sm g n
 |0,_=>rfl
 |n+1,h=>by simp only [sm];rw [fQ_ n fun r hr=>h r (by lia),h n (by lia)]
theorem kw_:∀n,sm (fun _=>0) n=0
 |0=>rfl
 |n+1=>by simp only [sm];rw [kw_ n];rfl
theorem k8_ (v:Nat->Int):∀(m s N:Nat),m<N->dl v s m=sm (fun r=>(bin m r:Int)*dl v (s+r) 0) N
 |0,s,N,h=>by
  obtain⟨N,rfl⟩:∃k,N=k+1:=⟨N-1,by lia⟩;rw [hX_,fQ_ (g:=fun _=>0) N (fun r _=>by simp [bin]),kw_];simp [bin]
 |m+1,s,N,h=>by
  obtain⟨N,rfl⟩:∃k,N=k+1:=⟨N-1,by lia⟩;have h1:=k8_ v m s (N+1) (by lia);have h2:=k8_ v m (s+1) N (by lia);rw [hX_] at h1⊢;have e:dl v s (m+1)=dl v s m+dl v (s+1) m:=by show _=_+(dl v s (m+1)-dl v s m);lia
  rw [e,h1,h2,dw_,dw_,Int.add_assoc,<-no_];refine BW _ (fQ_ N fun r _=> ?_);rw [bin,show s+1+r=s+(r+1) by lia];simp only [Int.natCast_add]
  grind
def quo:List Int->Int->List Int
 |[],_=>[]
 |_::ts,a=>aL_ ts 0 ((quo ts a).map (a* ·))
theorem dG_ (a:Int):∀ps:List Int,(quo ps a).length=ps.length-1
 |[]=>rfl
 |t::ts=>by rw [quo,aq_];simp
theorem ns_ (a x:Int):∀ps:List Int,ev ps x=ev ps a+(x-a)*ev (quo ps a) x
 |[]=>by simp [ev,quo]
 |t::ts=>by
  have ih:=ns_ a x ts;rw [quo,fH_ x ts 0 _ (by rw [A2,dG_];lia),eY_,ev,ev];simp only [Int.pow_zero,Int.one_mul];have e:x*ev ts x-a*ev ts a=(x-a)*ev ts x+a*(ev ts x-ev ts a):=by grind
  have e2:ev ts x-ev ts a=(x-a)*ev (quo ts a) x:=by lia
  rw [e2] at e
  grind
theorem jA_:∀(ts zs:List Int),zs.length<ts.length->(aL_ ts 0 zs).getLast? =ts.getLast?
 |[],_,h=>by simp at h
 |t::ts,[],_=>rfl
 |t::ts,z::zs,h=>by
  have h':zs.length<ts.length:=by simpa using h
  rw [aL_];cases ts with
  |nil=>simp at h'
  |cons u us=>
   have:=jA_ (u::us) zs h';cases e:aL_ (u::us) 0 zs with
   |nil=>rw [<-BD,aq_] at e;simp at e
   |cons w ws=>rw [e] at this;rw [List.getLast?_cons_cons,List.getLast?_cons_cons,this]
theorem f9_:∀(n:Nat) (ps:List Int) (s c:Int),ps.length=n->ps.getLast? =some c->c≠0->(∀m:Nat,m<n->ev ps (s+m)=0)->False
 |0,ps,_,_,hl,hc,_,_=>by rw [BD.mp hl] at hc;simp at hc
 |1,ps,s,c,hl,hc,h0,h=>by
  obtain⟨t,rfl⟩:=List.length_eq_one_iff.mp hl;have:=h 0 (by lia);simp [ev] at this hc;exact h0 (by rw [<-hc,this])
 |n+2,ps,s,c,hl,hc,h0,h=>by
  match ps,hl,hc,h with
  |t::u::us,hl,hc,h=>
   refine f9_ (n+1) (quo (t::u::us) s) (s+1) c (by rw [dG_];simp at hl⊢;lia) ?_ h0 fun m hm=> ?_
   .rw [quo,jA_ _ _ (by rw [A2,dG_];simp),<-hc,List.getLast?_cons_cons]
   .have e0:=h 0 (by lia);have e1:=h (m+1) (by lia);rw [ns_ s] at e1;simp only [Int.natCast_zero,Int.add_zero] at e0;rw [e0] at e1;have e2:s+((m+1:Nat):Int)=s+1+(m:Int):=by lia
    rw [e2,Int.zero_add] at e1;rcases Int.mul_eq_zero.mp e1 with q|q
    .lia
    .exact q
theorem Kp.ex:∀(n:Nat) (ns:List Int),ns.length=n->∃ks,Kp ns ks
 |0,ns,h=>⟨[],⟨0,by rw [BD.mp h];rfl⟩, .inl rfl⟩
 |n+1,ns,h=>by
  rcases List.eq_nil_or_concat ns with rfl|⟨ms,c,rfl⟩
  .simp at h
  .by_cases hc:c=0
   .obtain⟨ks,⟨b,e⟩,k⟩:=Kp.ex n ms (by simpa using h);exact⟨ks,⟨b+1,by rw [e,hc,List.concat_eq_append,List.replicate_succ',BX]⟩,k⟩
   .exact⟨ms.concat c,⟨0,by simp⟩, .inr (by rw [List.concat_eq_append,List.getLast?_append];simpa using hc)⟩
theorem nL_ {ns:List Int} (h:Kp ns []) (k:Int):gz ns k=0:=by rw [h.coef,eV_]
theorem only{zs tops:List Int}{b s:Int}{n:Nat} (hl:Low zs b) (ht:tops=[]\/tops.getLast? ≠some 0) (l1:zs.length<=n) (l2:tops.length<=n) (h:∀m:Nat,m<n->ev zs (s+m)=ev tops (s+m)*b):zs=tops/\b=1:=by
 obtain⟨hb,hg,hz⟩:=hl;obtain⟨ks,hk⟩:=Kp.ex _ (fO_ zs (tops.map (-b* ·))) rfl;have len:(fO_ zs (tops.map (-b* ·))).length<=n:=by
  unfold fO_;rw [aq_,aq_,Am,A2];lia
 have z0:ks=[]:=by
  rcases hk.2 with q|q
  .exact q
  .cases e:ks.getLast? with
   |none=>exact List.getLast?_eq_none_iff.mp e
   |some c=>
    exfalso;have kl:=hk.len;refine f9_ ks.length ks s c rfl e (fun z=>q (by rw [e,z])) fun m hm=> ?_;rw [<-hk.ev,ij_,eY_,h m (by lia)]
    grind
 subst z0;have co:∀k,gz zs k=gz (tops.map (b* ·)) k:=fun k=>by
  have:=nL_ hk k;unfold fO_ at this;rw [eX_ _ 0 _ _ (by rw [aq_,Am];lia),eX_ _ 0 _ _ (by rw [Am];lia),jm_,bN_] at this;rw [bN_];simp at this
  grind
 have kz:Kp zs zs:=⟨⟨0,by simp⟩,hz⟩;have kt:Kp (tops.map (b* ·)) (tops.map (b* ·)):=by
  refine⟨⟨0,by simp⟩, ?_⟩;rcases ht with q|q
  .left;rw [q];rfl
  .right;rw [gm_];cases e:tops.getLast? with
   |none=>simp
   |some c=>
    rw [e] at q;simp at q⊢;lia
 have e:=kz.same kt co;have e1:b=1:=by
  have:=dt_ b.natAbs tops 1;rw [show((b.natAbs:Nat):Int)=b by lia,<-e,Nat.mul_one,hg,mX_] at this;lia
 rw [e1] at e;simp at e;exact⟨e,e1⟩
theorem b8_ {x n m:Nat} (h:x<=2^n) (hn:n<=m):x<=2^m:=Ai h (CD (by decide) hn)
theorem b6_ {x y:Int}{a b c:Nat} (h1:x.natAbs<=2^a) (h2:y.natAbs<=2^b) (h:a+b<=c):(x*y).natAbs<=2^c:=by
 rw [Cd];refine b8_ (n:=a+b) ?_ h;rw [Nat.pow_add];exact Bq h1 h2
theorem l7_ {x y:Int}{a b c:Nat} (h1:x.natAbs<=2^a) (h2:y.natAbs<=2^b) (ha:a+1<=c) (hb:b+1<=c):(x+y).natAbs<=2^c:=by
 have h:=Int.natAbs_add_le x y;have e:2^c=2^(c-1)+2^(c-1):=by
  obtain⟨d,rfl⟩:∃d,c=d+1:=⟨c-1,by lia⟩;rw [Nat.pow_succ];simp;lia
 have p1:=b8_ h1 (show a<=c-1 by lia);have p2:=b8_ h2 (show b<=c-1 by lia);lia
def Bn (n:Nat) (l:List Int):Prop:=∀x∈l,x.natAbs<=2^n
theorem Bn.mono {n m:Nat}{l:List Int} (h:Bn n l) (e:n<=m):Bn m l:=fun x hx=>b8_ (h x hx) e
theorem Bn.bd {n:Nat}{l:List Int} (h:Bn n l):Bd ((2^n:Nat):Int) l:=fun x hx=>by have:=h x hx;lia
theorem Bd.bn {n:Nat}{l:List Int} (h:Bd ((2^n:Nat):Int) l):Bn n l:=fun x hx=>by have:=h x hx;lia
theorem r4_ {xs ys:List Int}{A B:Nat} (h1:Bd A xs) (h2:Bd B ys):Bd ((xs.length*(A*B):Nat):Int) (cv xs ys xs.length):=by
 have e:∀i,cv xs ys i=cvA (xs.length+ys.length) xs ys i:=fun i=>by
  induction i with
  |zero=>rfl
  |succ i ih=>rw [cv,cvA,ih]
 rw [e];exact nU_ h1 h2 _ (A5 _)
theorem qR_ {xs ys:List Int}{a b c:Nat} (h1:Bn a xs) (h2:Bn b ys) (hl:xs.length<=16) (h:a+b+4<=c):Bn c (cv xs ys xs.length):=by
 have:=r4_ h1.bd h2.bd;refine Bd.bn (this.mono ?_);have e1:xs.length*(2^a*2^b)<=2^4*(2^a*2^b):=Nat.mul_le_mul_right _ (by lia);have e2:2^4*(2^a*2^b)=2^(a+b+4):=by rw [<-Nat.pow_add,<-Nat.pow_add,Nat.add_comm]
 have e3:=b8_ (x:=2^(a+b+4)) (A5 _) h;lia
theorem k9_ {xs:List Int}{c:Int}{a b d:Nat} (h1:Bn a xs) (h2:c.natAbs<=2^b) (h:a+b<=d):Bn d (xs.map (· *c)):=fun x hx=>by
 obtain⟨y,hy,rfl⟩:=Aa.mp hx;exact b6_ (h1 y hy) h2 h
theorem pS_ {xs ys:List Int}{a b c:Nat} (h1:Bn a xs) (h2:Bn b ys) (ha:a+1<=c) (hb:b+1<=c):Bn c (fO_ xs ys):=by
 have p:Bd ((2^(c-1):Nat):Int) xs:=(h1.mono (show a<=c-1 by lia)).bd;have q:Bd ((2^(c-1):Nat):Int) ys:=(h2.mono (show b<=c-1 by lia)).bd;have nn:=Int.natCast_nonneg (2^(c-1));refine Bd.bn ((dz_ (by lia) nn _ 0 _ (dz_ (by decide) nn _ 0 _ (nr_ (max xs.length ys.length)) p) q).mono ?_);obtain⟨d,rfl⟩:∃d,c=d+1:=⟨c-1,by lia⟩;rw [Nat.pow_succ];simp;lia
theorem Lo.nat {ns zs:List Int}{b bt:Int} (h:Lo ns b zs bt) (hb:0<b):1<=bt/\bt<=b/\∀n,Bn n ns->Bn n zs:=by
 obtain⟨ks,k1,k2,k3⟩:=h;have hp:0<b.natAbs:=by lia
 have g1:=ef_ hp ks;have g2:=ih_ hp ks;refine⟨?_, ?_,fun n hn x hx=> ?_⟩
 .rw [k3,BY _ (by lia),Int.le_ediv_iff_mul_le (by lia)];lia
 .have:=(lN_ (B:=b) g1 ⟨by lia,Int.le_refl _⟩).2;lia
 .rw [k2] at hx;obtain⟨t,ht,rfl⟩:=Aa.mp hx;have:=hn t (k1.mem t ht);have:=lN_ (t:=t) (B:=((2^n:Nat):Int)) g1 ⟨by lia,by lia⟩;lia
theorem oZ_ {zs:List Int} (h:zs≠[]) (hl:zs.getLast? ≠some 0):gz zs ((zs.length-1:Nat):Int)≠0:=by
 rw [eW_,List.getD];have:zs.length≠0:=fun z=>h (BD.mp z);intro z;refine hl ?_;rw [List.getLast?_eq_getElem?];rw [A1 (by lia)] at z⊢;simp at z;rw [z]
theorem Lo.short {ns zs:List Int}{b bt:Int} (h:Lo ns b zs bt) (m:Nat) (e:∀k:Int,(m:Int)<=k->gz ns k=0):zs.length<=m:=by
 obtain⟨ks,k1,k2,_⟩:=h;rw [k2,A2];rcases k1.2 with q|q
 .rw [q];exact AT _
 .rcases BP m ks.length with z|z
  .exfalso;refine oZ_ (fun y=>by rw [y] at z;simp at z) q ?_;rw [<-k1.coef];exact e _ (by lia)
  .exact z
theorem nT_ (ys:List Int):∀(xs:List Int) (k:Int),(xs.length:Int)+ys.length-1<=k->cz xs ys k=0
 |[],k,_=>rfl
 |x::xs,k,h=>by
  simp only [Ag] at h;rw [cz,nT_ ys xs (k-1) (by lia),nK_ (by lia)];simp
theorem Lo.prod {xs ys zs:List Int}{b bt:Int} (h:Lo (cv xs ys xs.length) b zs bt):zs.length<=xs.length+ys.length-1:=
 h.short _ fun k hk=>by
  rw [qJ_ _ _ _ _ (A5 _),AZ];exact nT_ ys xs k (by lia)
theorem nH_ {a:Int}{l:List Int}{p q:Nat} (ha:a.natAbs<=2^p) (hl:Bn q l):∀i,i<=l.length->(hor a (l.take i)).natAbs<=2^(q+(p+1)*i)
 |0,_=>by simp [hor]
 |i+1,h=>by
  have e:l.take (i+1)=l.take i++[l[i]]:=by
   rw [AM,A1 (by lia)];rfl
  rw [e,ds_];have e2:(p+1)*(i+1)=(p+1)*i+(p+1):=Nat.mul_succ ..
  exact l7_ (b6_ (nH_ ha hl i (by lia)) ha (A5 _)) (hl l[i] (by simp)) (by lia) (by lia)
def vf (vs:List Int) (j:Nat):Int:=vs.getD j 0
structure Tv (s:Int) (vs:List Int) (i:Nat) (zt:List Int) (bt:Int) (zc:List Int) (bc:Int) (ds:List Int):Prop where
 le:i<=vs.length
 ds:ds=(List.range (vs.length-i)).map (dl (vf vs) i)
 lt:Low zt bt
 lc:1<=bc
 et:∀m:Nat,ev zt (s+m)=sm (fun r=>(bin m r:Int)*dl (vf vs) r 0) i*bt
 ec:∀m:Nat,ev zc (s+m)=(bin m i:Int)*bc
 nt:zt.length<=i
 nc:zc.length<=i+1
 bt:bt.natAbs<=2^(2*i*i)
 bc:bc.natAbs<=2^(4*i)
 dt:Bn (500+100*i) zt
 dc:Bn (45*i) zc
def so_ (s:Int) (vs zs:List Int) (b:Int):Prop:=Low zs b/\zs.length<=vs.length/\(∀m:Nat,m<vs.length->ev zs (s+m)=vs.getD m 0*b)/\b.natAbs<=2^300/\Bn 1800 zs
theorem m1_ {v:Nat->Int}{n:Nat} (h:∀j,(v j).natAbs<=2^n):∀i j,(dl v i j).natAbs<=2^(n+i)
 |0,j=>h j
 |i+1,j=>by
  rw [dl,Int.sub_eq_add_neg];exact l7_ (m1_ h i (j+1)) (by rw [Int.natAbs_neg];exact m1_ h i j) (by lia) (by lia)
theorem pG_ {vs:List Int}{n:Nat} (h:Bn n vs) (j:Nat):(vf vs j).natAbs<=2^n:=by
 unfold vf;rw [List.getD];cases e:vs[j]? with
 |none=>simp
 |some x=>exact h x (AX e)
theorem Tv.start {s:Int}{vs zt zc:List Int}{bt bc:Int} (h1:Lo [] 1 zt bt) (h2:Lo [1] 1 zc bc):Tv s vs 0 zt bt zc bc vs:=by
 obtain⟨a1,a2,a3⟩:=h1.nat (by decide);obtain⟨c1,c2,c3⟩:=h2.nat (by decide);have l1:=h1.len;have l2:=h2.len;refine⟨AT _, ?_,h1.low (by decide),c1,fun m=> ?_,fun m=> ?_,l1,l2,by simp;lia,by simp;lia,a3 _ (fun x hx=>by simp at hx),c3 _ (fun x hx=> ?_)⟩
 .refine List.ext_getElem (by simp) fun j p q=> ?_;simp [dl,vf,p]
 .have:=h1.ev (by decide) (s+m);simp [ev,sm] at this⊢;exact this
 .have:=h2.ev (by decide) (s+m);simp [ev,dw_] at this⊢;exact this
 .rw [BB.mp hx];decide
theorem Tv.done {s:Int}{vs zt zc ds:List Int}{bt bc:Int}{i:Nat} (h:Tv s vs i zt bt zc bc ds) (hn:vs.length<=12) (hd:ds=[]):so_ s vs zt bt:=by
 have e:i=vs.length:=by
  have:=h.ds;rw [hd] at this;have:=BW List.length this;simp at this;have:=h.le;lia
 have hi:2*i*i<=300:=Ai (Bq (show 2*i<=24 by lia) (show i<=12 by lia)) (by decide);refine⟨h.lt,by have:=h.nt;lia,fun m hm=> ?_,b8_ h.bt hi,h.dt.mono (by lia)⟩;rw [h.et m];have:=k8_ (vf vs) m 0 i (by lia);simp only [Nat.zero_add] at this;rw [<-this];rfl
theorem Tv.one {d s:Int}{z:List Int}{b:Int} (hd:d.natAbs<=2^212) (e:Lo [d] 1 z b):z.length<=1/\b=1/\Bn 212 z/\∀x,ev z x=d:=by
 obtain⟨a1,a2,a3⟩:=e.nat (by decide);have l1:=e.len;refine⟨l1,by lia,a3 _ (fun x hx=>by rw [BB.mp hx];exact hd),fun x=> ?_⟩;have:=e.ev (by decide) x;simp [ev] at this;rw [this,show b=1 by lia];simp
theorem Tv.two {s d:Int}{vs zt zc ds z3 z4:List Int}{bt bc b3 b4:Int}{i:Nat} (h:Tv s vs i zt bt zc bc ds) (hi:i<12) (hd:d.natAbs<=2^212) (e3:Lo [d] 1 z3 b3) (e4:Lo (cv zc z3 zc.length) (bc*b3) z4 b4):z4.length<=i+1/\1<=b4/\b4.natAbs<=2^(4*i)/\Bn (45*i+216) z4/\∀m:Nat,ev z4 (s+m)=(bin m i:Int)*d*b4:=by
 obtain⟨f1,rfl,f3,f4⟩:=Tv.one (s:=s) hd e3;have lc:=h.lc;have bp:0<bc*1:=by lia
 obtain⟨a1,a2,a3⟩:=e4.nat bp;have l:=e4.prod;have nc:=h.nc;refine⟨by lia,a1, ?_,a3 _ (qR_ h.dc f3 (by lia) (by lia)),fun m=> ?_⟩
 .have:=h.bc;lia
 .have q:=e4.ev bp (s+m);rw [lO_,h.ec m,f4,Int.mul_one] at q;refine CF (show bc≠0 by lia) ?_;rw [q]
  grind
theorem Tv.five {s b5:Int}{z5:List Int}{i:Nat} (hi:i<12) (hs:s.natAbs<=2^40) (e5:Lo [-s-i,1] ((i:Int)+1) z5 b5):z5.length<=2/\1<=b5/\b5.natAbs<=2^4/\Bn 41 z5:=by
 obtain⟨a1,a2,a3⟩:=e5.nat (by lia);have l:=e5.len;refine⟨l,a1,by lia,a3 _ fun x hx=> ?_⟩;simp only [AN,BC,CC] at hx;rcases hx with q|q
 .subst q;lia
 .subst q;decide
theorem Tv.step {s:Int}{vs zt zc ds z3 z4 z5 z6 z7:List Int}{bt bc b3 b4 b5 b6 b7:Int}{i:Nat} (h:Tv s vs i zt bt zc bc ds) (hn:vs.length<=12) (hi:i<vs.length) (hv:Bn 200 vs) (hs:s.natAbs<=2^40)
  (e3:Lo [dl (vf vs) i 0] 1 z3 b3) (e4:Lo (cv zc z3 zc.length) (bc*b3) z4 b4) (e7:Lo (fO_ (zt.map (· *b4)) (z4.map (· *bt))) (bt*b4) z7 b7) (e5:Lo [-s-i,1] ((i:Int)+1) z5 b5) (e6:Lo (cv zc z5 zc.length) (bc*b5) z6 b6):
  Tv s vs (i+1) z7 b7 z6 b6 ((List.range (vs.length-(i+1))).map (dl (vf vs) (i+1))):=by
 have hd:(dl (vf vs) i 0).natAbs<=2^212:=b8_ (m1_ (pG_ hv) i 0) (by lia);obtain⟨f1,f2,f3,f4,f5⟩:=h.two (by lia) hd e3 e4;obtain⟨g1,g2,g3,g4⟩:=Tv.five (by lia) hs e5;have lc:=h.lc;have lt:=h.lt.1;have p7:0<bt*b4:=Int.mul_pos (by lia) (by lia);have p6:0<bc*b5:=Int.mul_pos (by lia) (by lia);obtain⟨a1,a2,a3⟩:=e7.nat p7;obtain⟨c1,c2,c3⟩:=e6.nat p6;have l7:=e7.len;have l6:=e6.prod;have nc:=h.nc;have nt:=h.nt;have e:2*(i+1)*(i+1)=2*i*i+4*i+2:=by grind
 have q7:b7.natAbs<=(bt*b4).natAbs:=by lia
 have q6:b6.natAbs<=(bc*b5).natAbs:=by lia
 have sq:2*i*i<=22*11:=Bq (by lia) (by lia);refine⟨by lia,rfl,e7.low p7,c1,fun m=> ?_,fun m=> ?_, ?_,by lia, ?_, ?_,a3 _ ?_,c3 _ (qR_ h.dc g4 (by lia) (by lia))⟩
 .have q:=e7.ev p7 (s+m);rw [ij_,ik_,ik_,h.et m,f5 m] at q;refine CF (show bt*b4≠0 by lia) ?_;rw [q,sm]
  grind
 .have q:=e6.ev p6 (s+m);have r:=e5.ev (by lia) (s+m);have st:=ek_ m i;rw [lO_,h.ec m] at q;simp only [ev] at r;have r2:ev z5 (s+m)*((i:Int)+1)=((m:Int)-i)*b5:=by rw [r];grind
  refine CF (show bc*b5≠0 by lia) ?_;rw [q];refine CF (show(i:Int)+1≠0 by lia) ?_;have t1:(bin m i:Int)*bc*ev z5 (s+m)*b6*((i:Int)+1)=(bin m i:Int)*bc*b6*(ev z5 (s+m)*((i:Int)+1)):=by grind
  rw [t1,r2];have t2:(bin m (i+1):Int)*b6*(bc*b5)*((i:Int)+1)=(((i:Int)+1)*(bin m (i+1):Int))*(b6*bc*b5):=by grind
  rw [t2,st]
  grind
 .refine Ai l7 ?_;unfold fO_;rw [aq_,aq_,Am,A2,A2];lia
 .refine Ai q7 ?_;exact b6_ h.bt f3 (by lia)
 .refine Ai q6 ?_;exact b6_ h.bc g3 (by lia)
 .exact pS_ (k9_ h.dt f3 (A5 _)) (k9_ f4 h.bt (A5 _)) (by lia) (by lia)
abbrev Lf:=Int×Int×Int
def sY_ (ps:List Lf) (f:Int):Int:=((ps.filter fun p=>decide (p.2.1=f)).map (·.2.2)).sum
def sm_ (ps:List Lf) (f:Int):Int:=((ps.filter fun p=>decide (p.1=f)).map (·.2.2)).sum
def back (xs:List Int):Lf:=(xs.getD 0 0,xs.getD 1 0,xs.getD 2 0)
def e8_ (p:Lf):List Int:=[p.1,p.2.1,p.2.2]
theorem jz_ (p:Lf):back (e8_ p)=p:=rfl
def lf (p:Lf):D:=tI (e8_ p)
def lfs (ps:List Lf):D:= .l (ps.map lf)
theorem g1_ {H:Hp}{p:Lf}{v:V} (h:Is H (lf p) v):∃a,v= .ref a/\H a=some (.tup [.int p.1, .int p.2.1, .int p.2.2]):=g0_ h
theorem jV_ {H:Hp}{p:Lf}{a:Addr} (h:H a=some (.tup [.int p.1, .int p.2.1, .int p.2.2])):Is H (lf p) (.ref a):=if_ (xs:=e8_ p) h
theorem i4_ (ps:List Lf):lfs ps= .l ((ps.map e8_).map tI):=by unfold lfs;rw [Bf];rfl
def cL_ (H H':Hp):Prop:=∀a xs,H a=some (.tup xs)->H' a=some (.tup xs)
theorem cL_.of_same {H H':Hp} (s:ak_ H H'):cL_ H H':=fun a xs e=>s _ _ e
theorem cL_.trans {H H' H'':Hp} (s:cL_ H H') (t:cL_ H' H''):cL_ H H'':=fun a xs e=>t _ _ (s _ _ e)
theorem cL_.upd {H:Hp}{b:Addr}{zs ys:List V} (hb:H b=some (.lst zs)):cL_ H (L2.upd H b (.lst ys)):=fun a xs e=>by
 rw [aj_ (by rintro rfl;rw [hb] at e;cases e)];exact e
theorem eT_ {H H':Hp} (t:cL_ H H'):∀{ps:List Lf}{vs:List V},Iss H (ps.map lf) vs->Iss H' (ps.map lf) vs
 |[],_,h=>by rw [cm_ h];exact ax_
 |p::ps,_,h=>by
  obtain⟨u,us,rfl,h1,h2⟩:=ba_ h;obtain⟨a,rfl,ha⟩:=g1_ h1;exact az_ (jV_ (t _ _ ha)) (eT_ t h2)
def eK_ (p q:Lf):Bool:=if p.1=q.1 then(if p.2.1=q.2.1 then decide (p.2.2<q.2.2) else decide (p.2.1<q.2.1)) else decide (p.1<q.1)
def g4_:List Lf->List Lf->Bool
 |_,[]=>false
 |[],_::_=>true
 |x::xs,y::ys=>if x=y then g4_ xs ys else eK_ x y
theorem nQ_ {K:W.Frag}{H:Hp}{p q:Lf}{v w:V} (h:Is H (lf p) v) (k:Is H (lf q) w):EqR K H 1 v w (decide (p=q)):=by
 have e:=h.eqr (K:=K) (n:=1) (by simp [lf,tI,e8_,dep,lR_]) (by simp [lf,tI,e8_,Kin,j9_]) k;have:eqD (lf p) (lf q)=decide (p=q):=by
  obtain⟨a,b,c⟩:=p;obtain⟨d,e,f⟩:=q;simp [lf,tI,e8_,eqD,im_,Bool.and_assoc]
 rwa [this] at e
theorem qw_ {K:W.Frag}{H:Hp}{p q:Lf}{v w:V} (h:Is H (lf p) v) (k:Is H (lf q) w):LtR K H 1 v w (eK_ p q):=by
 obtain⟨a,rfl,ha⟩:=g1_ h;obtain⟨b,rfl,hb⟩:=g1_ k;have e:=LtR.tuples (K:=K) (H:=H) (d:=0) (a:=a) (b:=b) (fun j=>if j=0 then decide (p.1=q.1) else if j=1 then decide (p.2.1=q.2.1) else decide (p.2.2=q.2.2)) (fun j=>if j=0 then decide (p.1<q.1) else if j=1 then decide (p.2.1<q.2.1) else decide (p.2.2<q.2.2)) (SqT.of ha) (SqT.of hb) (fun j x y hx hy=> ?_) (fun j x y hx hy _=> ?_)
 .have e2:SeqAt.lex (fun j=>if j=0 then decide (p.1=q.1) else if j=1 then decide (p.2.1=q.2.1) else decide (p.2.2=q.2.2)) (fun j=>if j=0 then decide (p.1<q.1) else if j=1 then decide (p.2.1<q.2.1) else decide (p.2.2<q.2.2)) 3 3 3 0=eK_ p q:=by
   unfold eK_;by_cases e0:p.1=q.1
   .by_cases e1:p.2.1=q.2.1
    .by_cases e2:p.2.2=q.2.2
     .simp [SeqAt.lex,e0,e1,e2]
     .simp [SeqAt.lex,e0,e1,e2]
    .simp [SeqAt.lex,e0,e1]
   .simp [SeqAt.lex,e0]
  exact e2▸e
 .match j,hx,hy with
  |0,hx,hy=>cases hx;cases hy;exact EqR.int 0 _ _
  |1,hx,hy=>cases hx;cases hy;exact EqR.int 0 _ _
  |2,hx,hy=>cases hx;cases hy;exact EqR.int 0 _ _
  |j+3,hx,_=>simp at hx
 .match j,hx,hy with
  |0,hx,hy=>cases hx;cases hy;exact LtR.int 0 _ _
  |1,hx,hy=>cases hx;cases hy;exact LtR.int 0 _ _
  |2,hx,hy=>cases hx;cases hy;exact LtR.int 0 _ _
  |j+3,hx,_=>simp at hx
theorem ln_ (p q:List Lf):∀(k i:Nat),min p.length q.length-i=k->i<=min p.length q.length->SeqAt.lex (fun j=>decide (p.getD j (0,0,0)=q.getD j (0,0,0))) (fun j=>eK_ (p.getD j (0,0,0)) (q.getD j (0,0,0))) p.length q.length k i=g4_ (p.drop i) (q.drop i)
 |0,i,hk,hi=>by
  rw [SeqAt.lex];rcases(by lia:q.length=i\/(p.length=i/\i<q.length)) with e|⟨e,e2⟩
  .rw [List.drop_of_length_le (l:=q) (by lia)];have:¬p.length<q.length:=by lia
   cases p.drop i<;>simp [g4_,this]
  .rw [List.drop_of_length_le (l:=p) (by lia),Bb e2];have:p.length<q.length:=by lia
   simp [g4_,this]
 |k+1,i,hk,hi=>by
  have h1:i<p.length:=by lia
  have h2:i<q.length:=by lia
  have g1:p.getD i (0,0,0)=p[i]:=by simp [List.getD,h1]
  have g2:q.getD i (0,0,0)=q[i]:=by simp [List.getD,h2]
  rw [SeqAt.lex,Bb h1,Bb h2,g4_,g1,g2];by_cases e:p[i]=q[i]
  .rw [A9 (Ah e),A9 e];exact ln_ p q k (i+1) (by lia) (by lia)
  .rw [A7 (by simpa using e),A7 e]
theorem lm_ {K:W.Frag}{H:Hp}{p q:List Lf}{vs ws:List V} (h:Iss H (p.map lf) vs) (k:Iss H (q.map lf) ws):
  (∀(j:Nat) x y,vs[j]? =some x->ws[j]? =some y->EqR K H 1 x y (decide (p.getD j (0,0,0)=q.getD j (0,0,0))))/\(∀(j:Nat) x y,vs[j]? =some x->ws[j]? =some y->decide (p.getD j (0,0,0)=q.getD j (0,0,0))=false->LtR K H 1 x y (eK_ (p.getD j (0,0,0)) (q.getD j (0,0,0)))):=by
 have go:∀(j:Nat) x y,vs[j]? =some x->ws[j]? =some y->Is H (lf (p.getD j (0,0,0))) x/\Is H (lf (q.getD j (0,0,0))) y:=fun j x y hx hy=>by
  obtain⟨d,hd,h1⟩:=h.of_get hx;obtain⟨e,he,h2⟩:=k.of_get hy;rw [A6] at hd he;obtain⟨d',hd',rfl⟩:=A4.mp hd;obtain⟨e',he',rfl⟩:=A4.mp he;rw [List.getD,hd',List.getD,he'];exact⟨h1,h2⟩
 exact⟨fun j x y hx hy=>nQ_ (go j x y hx hy).1 (go j x y hx hy).2,fun j x y hx hy _=>qw_ (go j x y hx hy).1 (go j x y hx hy).2⟩
theorem pm_ {K:W.Frag}{H:Hp}{p q:List Lf}{v w:V} (h:Is H (lfs p) v) (k:Is H (lfs q) w):Ask K H v w (g4_ p q):=by
 obtain⟨a,vs,rfl,ha,h⟩:=dd_ h;obtain⟨b,ws,rfl,hb,k⟩:=dd_ k;obtain⟨e1,e2⟩:=lm_ (K:=K) h k;refine⟨a,b,vs,ws,1,_,_,rfl,rfl,SqL.of ha,SqL.of hb,by decide,e1,e2, ?_⟩;rw [h.length,k.length,A2,A2,ln_ p q _ 0 (Nat.sub_zero _) (AT _),List.drop_zero,List.drop_zero]
def nw (H0 H:Hp):Hp:=fun b=>match H0 b with|some (.lst _)=>none|_=>H b
theorem c9_ {H0 H:Hp}:ak_ (nw H0 H) H:=fun b o e=>by
 unfold nw at e;split at e
 .cases e
 .exact e
theorem f6_ {H0 H H':Hp} (s:ak_ H H'):ak_ (nw H0 H) (nw H0 H'):=fun b o e=>by
 unfold nw at e⊢;split at e
 .cases e
 .exact s _ _ e
theorem iU_ {H0 H1 H:Hp} (s:ak_ H0 H1):ak_ (nw H1 H) (nw H0 H):=fun b o e=>by
 unfold nw at e⊢;split at e
 .cases e
 .rename_i h;split
  .rename_i xs h0;exact absurd (s _ _ h0) (h xs)
  .exact e
theorem ny_ {H0 H1 H:Hp}{a:Addr}{xs:List V} (s:ak_ H0 H1) (ha:H1 a=some (.lst xs)):ak_ (nw H1 H) (hid (nw H0 H) a):=fun b o e=>by
 have hb:b≠a:=by
  rintro rfl;unfold nw at e;rw [ha] at e;cases e
 rw [nJ_ hb];exact iU_ s b o e
theorem fw_ {H0 H:Hp}{a:Addr} (h:H0 a=none):nw H0 H a=H a:=by unfold nw;rw [h]
theorem qp_ {H0 H:Hp}{a:Addr}{xs:List V} (s:ak_ H0 H) (h:H a=some (.tup xs)):nw H0 H a=some (.tup xs):=by
 unfold nw;split
 .rename_i ys e;rw [s _ _ e] at h;cases h
 .exact h
theorem qr_ {H0 H:Hp}{ps:List Lf}{vs:List V} (s:ak_ H0 H) (h:Iss H (ps.map lf) vs):Iss (nw H0 H) (ps.map lf) vs:=eT_ (fun a xs e=>qp_ s e) h
theorem qq_ {H0 H:Hp}{ps:List Lf}{a:Addr} (s:ak_ H0 H) (n:H0 a=none) (h:Is H (lfs ps) (.ref a)):Is (nw H0 H) (lfs ps) (.ref a):=by
 obtain⟨_,vs,e,ha,hi⟩:=dd_ h;cases e;exact fg_ (by rw [fw_ n];exact ha) (qr_ s hi)
def Acc (H0 H:Hp) (a:Addr) (xs:List D):Prop:=∃vs,H a=some (.lst vs)/\Iss (hid (nw H0 H) a) xs vs
theorem Acc.start {H0 H:Hp}{a:Addr} (h:H a=some (.lst [])):Acc H0 H a []:=⟨[],h,ax_⟩
theorem Acc.mono {H0 H H':Hp}{a:Addr}{xs:List D} (s:ak_ H H') (g:Acc H0 H a xs):Acc H0 H' a xs:=let ⟨vs,e,h⟩:=g;⟨vs,s _ _ e,h.mono (gr_ (f6_ s))⟩
theorem jX_ {H0 H:Hp}{a:Addr}{o:HO}:hid (nw H0 (upd H a o)) a=hid (nw H0 H) a:=by
 funext b
 unfold hid;split
 .rfl
 .rename_i h;unfold nw;rw [aj_ h]
theorem Acc.add {H0 H1 H2:Hp}{a:Addr}{xs:List D}{x:D}{vs:List V}{v:V} (s01:ak_ H0 H1) (s12:ak_ H1 H2) (ha:H1 a=some (.lst vs)) (h:Iss (hid (nw H0 H1) a) xs vs) (k:Is (nw H1 H2) x v):Acc H0 (upd H2 a (.lst (vs++[v]))) a (xs++[x]):=
 ⟨vs++[v],ae_,by rw [jX_];exact(h.mono (gr_ (f6_ s12))).append (az_ (k.mono (ny_ s01 ha)) ax_)⟩
theorem Acc.is {H0 H:Hp}{a:Addr}{xs:List D} (n:H0 a=none) (g:Acc H0 H a xs):Is (nw H0 H) (.l xs) (.ref a):=let ⟨_,e,h⟩:=g;fg_ (by rw [fw_ n];exact e) (h.mono mT_)
def b7_ (p:Lf):Int:=(p.2.1-p.1)*p.2.2-1
def rT_:Nat->List Lf->Int->Int->List (List Lf)
 |0,_,_,_=>[[]]
 |n+1,ls,wt,sp=>[[]]++(List.range ls.length).flatMap fun i=>match ls[i]? with
  |none=>[]
  |some p=>if p.2.2<=wt/\b7_ p<=sp then(rT_ n (ls.drop i) (wt-p.2.2) (sp-b7_ p)).map (p:: ·) else []
theorem bl_ {α:Type} (g:Nat->List α) (i:Nat):(List.range (i+1)).flatMap g=(List.range i).flatMap g++g i:=by
 rw [Bv,List.flatMap_append];simp
theorem h3_ {α:Type} (g:Nat->List α):∀{m i:Nat},i<m->((List.range i).flatMap g).length+(g i).length<=((List.range m).flatMap g).length
 |0,i,h=>absurd h (by lia)
 |m+1,i,h=>by
  rw [bl_,AO];by_cases e:i=m
  .rw [e];exact A5 _
  .have:=h3_ g (m:=m) (i:=i) (by lia);lia
theorem qx_ (p q:Lf):ltI (e8_ p) (e8_ q)=eK_ p q:=by
 unfold eK_ ltI e8_;simp only [jS_,Ag,List.length_nil];split
 .split
  .split
   .rename_i h;simp [h]
   .rfl
  .rfl
 .rfl
def nF_ (x:Lf):List Lf->List Lf
 |[]=>[x]
 |y::ys=>if eK_ x y then x::y::ys else if x=y then y::ys else y::nF_ x ys
def gD_ (xs:List Lf):List Lf:=xs.foldr nF_ []
theorem gd_ {p q:Lf}:eK_ p q=true↔p.1<q.1\/(p.1=q.1/\(p.2.1<q.2.1\/(p.2.1=q.2.1/\p.2.2<q.2.2))):=by
 unfold eK_;by_cases e0:p.1=q.1
 .by_cases e1:p.2.1=q.2.1
  .simp [e0,e1]
  .simp [e0,e1]
 .simp [e0]
theorem gc_ {p:Lf}:¬eK_ p p=true:=by rw [gd_];lia
theorem lk_ {p q r:Lf} (h:eK_ p q=true) (k:eK_ q r=true):eK_ p r=true:=by rw [gd_] at*;lia
theorem i1_ {p q:Lf} (h:¬eK_ p q=true) (k:p≠q):eK_ q p=true:=by
 rw [gd_] at*
 obtain⟨a,b,c⟩:=p;obtain⟨d,e,f⟩:=q;simp only [ne_eq,Be,not_and] at*
 lia
theorem gq_ {x z:Lf}:∀{ys:List Lf},z∈nF_ x ys↔z=x\/z∈ys
 |[]=>by simp [nF_]
 |y::ys=>by
  unfold nF_;split
  .simp
  .split
   .rename_i e;subst e;simp
   .simp [gq_ (ys:=ys)];constructor
    .rintro(h|h|h)
     .exact .inr (.inl h)
     .exact .inl h
     .exact .inr (.inr h)
    .rintro(h|h|h)
     .exact .inr (.inl h)
     .exact .inl h
     .exact .inr (.inr h)
theorem lF_ {x:Lf}:∀{ys:List Lf},(ys.Pairwise fun a b=>eK_ a b=true)->(nF_ x ys).Pairwise fun a b=>eK_ a b=true
 |[],_=>by simp [nF_]
 |y::ys,h=>by
  unfold nF_;split
  .rename_i e;refine List.Pairwise.cons (fun z hz=> ?_) h;rcases AN.mp hz with rfl|hz
   .exact e
   .exact lk_ e ((CU.mp h).1 z hz)
  .split
   .exact h
   .rename_i e1 e2;refine List.Pairwise.cons (fun z hz=> ?_) (lF_ (CU.mp h).2);rcases gq_.mp hz with rfl|hz
    .exact i1_ e1 e2
    .exact(CU.mp h).1 z hz
theorem df_ {z:Lf}:∀{xs:List Lf},z∈gD_ xs↔z∈xs
 |[]=>by simp [gD_]
 |x::xs=>by
  have:=df_ (z:=z) (xs:=xs);unfold gD_ at this⊢;rw [List.foldr_cons,gq_,this,AN]
theorem hU_:∀(xs:List Lf),(gD_ xs).Pairwise fun a b=>eK_ a b=true
 |[]=>by simp [gD_]
 |x::xs=>by
  have:=hU_ xs;unfold gD_ at this⊢;rw [List.foldr_cons];exact lF_ this
theorem gP_:∀{xs ys:List Lf},(xs.Pairwise fun a b=>eK_ a b=true)->(ys.Pairwise fun a b=>eK_ a b=true)->(∀z,z∈xs↔z∈ys)->xs=ys
 |[],[],_,_,_=>rfl
 |[],y::ys,_,_,h=>absurd ((h y).mpr (by simp)) (by simp)
 |x::xs,[],_,_,h=>absurd ((h x).mp (by simp)) (by simp)
 |x::xs,y::ys,h1,h2,h=>by
  have a1:=CU.mp h1;have a2:=CU.mp h2;have e:x=y:=by
   refine Classical.byContradiction fun ne=> ?_;have m1:x∈ys:=by rcases AN.mp ((h x).mp (by simp)) with e|e;exact absurd e ne;exact e
   have m2:y∈xs:=by rcases AN.mp ((h y).mpr (by simp)) with e|e;exact absurd e.symm ne;exact e
   exact gc_ (lk_ (a1.1 y m2) (a2.1 x m1))
  subst e;have:xs=ys:=gP_ a1.2 a2.2 fun z=>by
   have hz:=h z;rw [AN,AN] at hz;constructor
   .intro m;rcases hz.mp (.inr m) with e|e
    .subst e;exact absurd (a1.1 z m) gc_
    .exact e
   .intro m;rcases hz.mpr (.inr m) with e|e
    .subst e;exact absurd (a2.1 z m) gc_
    .exact e
  rw [this]
theorem ms_ {p q:Lf} (h:e8_ p=e8_ q):p=q:=by rw [<-jz_ p,<-jz_ q,h]
theorem oh_ {ps:List Lf}{yss:List (List Int)} (nd:yss.Nodup) (mem:∀z,z∈yss↔z∈ps.map e8_) (so:∀i j,i<j->j<yss.length->ltI (yss.getD j []) (yss.getD i [])=false):yss=(gD_ ps).map e8_:=by
 obtain⟨qs,e,hq⟩:=db_ (f:=e8_) (P:=fun p=>p∈ps) yss fun v hv=>by
  obtain⟨p,hp,rfl⟩:=Aa.mp ((mem v).mp hv);exact⟨p,hp,rfl⟩
 subst e;have:qs=gD_ ps:=by
  refine gP_ ?_ (hU_ ps) fun z=> ?_
  .rw [CM];intro i j hi hj hij;have h1:=so i j hij (by rw [A2];exact hj);rw [AD,AD,A6,A6,A1 hi,A1 hj] at h1;simp only [Option.map_some,Option.getD_some] at h1;rw [qx_] at h1;refine i1_ (by rw [h1];simp) fun e=> ?_;unfold List.Nodup at nd;rw [Cb,CM] at nd;exact nd i j hi hj hij (by rw [e])
  .rw [df_];constructor
   .exact hq z
   .intro hz;obtain⟨q,hq',e⟩:=Aa.mp ((mem (e8_ z)).mpr (Cu hz));rw [<-ms_ e];exact hq'
 rw [this]
def chF (n:Int):Nat->Int
 |0=>1
 |k+1=>chF n k*(n-(k:Int))/((k:Int)+1)
def wmF (t:List Int) (p:Nat) (m:Int):List Int:=t.set p (t.getD p 0+m)
theorem gF_ (t:List Int) (p:Nat) (m:Int):(wmF t p m).length=t.length:=by unfold wmF;rw [Bw]
theorem md_ {t:List Int}{p i:Nat}{m:Int} (h:p<t.length):(wmF t p m).getD i 0=t.getD i 0+if p=i then m else 0:=by
 unfold wmF;rw [AD,List.getElem?_set];by_cases e:p=i
 .subst e;simp [h]
 .simp [e]
theorem op_ {t:List Int}{p:Nat}{x:Int} (h:p<t.length):t.take p++[x]++t.drop (p+1)=t.set p x:=by
 rw [List.set_eq_take_append_cons_drop,A9 h];simp
def spR:Nat->Nat->List (List Nat)
 |0,a=>[[a]]
 |g+1,a=>(List.range (a+1)).flatMap fun h=>(spR g (a-h)).map (h:: ·)
def fr_ (t:List Int):Nat->List Nat->Int
 |_,[]=>1
 |p,s::r=>chF (t.getD p 0+(s:Int)) s*fr_ t (p+1) r
def iv_ (t:List Int):Nat->List Nat->List Int
 |_,[]=>t
 |p,s::r=>iv_ (wmF t p (s:Int)) (p+1) r
theorem kH_ {t:List Int}{m:Int}{q:Nat} (hq:q<t.length):∀{r:List Nat}{p:Nat},q<p->fr_ (wmF t q m) p r=fr_ t p r
 |[],p,_=>rfl
 |s::r,p,h=>by
  unfold fr_;rw [md_ hq,A7 (by lia),kH_ hq (r:=r) (by lia)];simp
def pbF:Nat->List Int->Nat->Nat->List (List Int×Int)
 |0,t,p,a=>[(wmF t p (a:Int),chF (t.getD p 0+(a:Int)) a)]
 |g+1,t,p,a=>(List.range (a+1)).flatMap fun h:Nat=>(pbF g (wmF t p (h:Int)) (p+1) (a-h)).map fun x=>(x.1,chF (t.getD p 0+(h:Int)) h*x.2)
theorem fE_ {α β:Type}{f g:α->List β}:∀{xs:List α},(∀x∈xs,f x=g x)->xs.flatMap f=xs.flatMap g
 |[],_=>rfl
 |x::xs,h=>by rw [List.flatMap_cons,List.flatMap_cons,h x (by simp),fE_ fun y hy=>h y (by simp [hy])]
theorem qj_:∀{g:Nat}{t:List Int}{p a:Nat},p+g<t.length->pbF g t p a=(spR g a).map fun r=>(iv_ t p r,fr_ t p r)
 |0,t,p,a,_=>by simp [pbF,spR,iv_,fr_]
 |g+1,t,p,a,h=>by
  unfold pbF spR;rw [List.map_flatMap];refine fE_ fun x _=> ?_;rw [qj_ (by rw [gF_];lia),Bf,Bf];refine Bx fun r _=> ?_;simp only [Function.comp,iv_,fr_];rw [kH_ (by lia) (Bc p)]
theorem hV_:∀{g a:Nat}{r:List Nat},r∈spR g a->r.length=g+1/\r.sum=a
 |0,a,r,h=>by simp [spR] at h;subst h;simp
 |g+1,a,r,h=>by
  unfold spR at h;obtain⟨x,hx,h⟩:=List.mem_flatMap.mp h;obtain⟨r',h',rfl⟩:=Aa.mp h;have hx:=BN.mp hx;obtain⟨e1,e2⟩:=hV_ h';simp [e1,e2];lia
abbrev Tab:=List (List Int×Int)
def d7_ (D:Tab) (g:List Int->Int):Int:=(D.map fun x=>x.2*g x.1).sum
def hP_ (D:Tab) (k:List Int):Int:=((D.find? fun x=>decide (x.1=k)).map (·.2)).getD 0
def iJ_ (D:Tab) (k:List Int) (v:Int):Tab:=if(D.any fun x=>decide (x.1=k))=true then D.map (fun x=>if x.1=k then(x.1,v) else x) else D++[(k,v)]
def pD_ (D:Tab) (k:List Int) (v:Int):Tab:=iJ_ D k (hP_ D k+v)
theorem jb_ (D:Tab) (k:List Int) (v:Int):(iJ_ D k v).map (·.1)=if k∈D.map (·.1) then D.map (·.1) else D.map (·.1)++[k]:=by
 unfold iJ_;have:(D.any fun x=>decide (x.1=k))=true↔k∈D.map (·.1):=by
  rw [List.any_eq_true,Aa];simp
 by_cases h:k∈D.map (·.1)
 .rw [A9 h,A9 (this.mpr h),Bf];refine Bx fun x _=> ?_;simp only [Function.comp];split<;>rfl
 .rw [A7 h,A7 (fun z=>h (this.mp z)),AL];rfl
theorem hT_ {D:Tab}{k:List Int}{v:Int}{g:List Int->Int} (h:k∉D.map (·.1)):d7_ (iJ_ D k v) g=d7_ D g+v*g k/\hP_ D k=0:=by
 have hn:∀x∈D,x.1≠k:=fun x hx e=>h (Aa.mpr ⟨x,hx,e⟩);have e1:(D.any fun x=>decide (x.1=k))=false:=by
  rw [List.any_eq_false];intro x hx;simpa using hn x hx
 have e2:D.find? (fun x=>decide (x.1=k))=none:=by
  rw [List.find?_eq_none];intro x hx;simpa using hn x hx
 unfold iJ_ hP_ d7_;rw [e1,e2];simp
theorem ep_:∀{D:Tab}{k:List Int}{v:Int}{g:List Int->Int},(D.map (·.1)).Nodup->k∈D.map (·.1)->d7_ (D.map fun x=>if x.1=k then(x.1,v) else x) g=d7_ D g+(v-hP_ D k)*g k
 |[],_,_,_,_,h=>by simp at h
 |x::D,k,v,g,nd,h=>by
  rw [AW,Ba] at nd;by_cases e:x.1=k
  .subst e;have hn:∀y∈D,y.1≠x.1:=fun y hy e=>nd.1 (Aa.mpr ⟨y,hy,e⟩);have e1:(D.map fun y=>if y.1=x.1 then(y.1,v) else y)=D:=by
    conv=>rhs;rw [<-List.map_id D]
    refine Bx fun y hy=> ?_;rw [A7 (hn y hy)];rfl
   have e2:hP_ (x::D) x.1=x.2:=by simp [hP_]
   rw [AW,e1,e2];simp only [d7_,CI,AW,C2];rw [Int.sub_mul];lia
  .have hk:k∈D.map (·.1):=by
    rw [AW,AN] at h;rcases h with h|h
    .exact absurd h.symm e
    .exact h
   have ih:=ep_ (g:=g) (v:=v) nd.2 hk;have e2:hP_ (x::D) k=hP_ D k:=by simp [hP_,Bh,e]
   rw [e2,AW];simp only [d7_,AW,C2,A7 e] at ih⊢;lia
theorem mk_ {D:Tab} (nd:(D.map (·.1)).Nodup) (k:List Int) (v:Int) (g:List Int->Int):d7_ (pD_ D k v) g=d7_ D g+v*g k:=by
 unfold pD_;by_cases h:k∈D.map (·.1)
 .have e:(D.any fun x=>decide (x.1=k))=true:=by
   rw [List.any_eq_true];obtain⟨x,hx,e⟩:=Aa.mp h;exact⟨x,hx,Ah e⟩
  unfold iJ_;rw [A9 e,ep_ nd h];rw [show hP_ D k+v-hP_ D k=v by lia]
 .obtain⟨e1,e2⟩:=hT_ (v:=hP_ D k+v) (g:=g) h;rw [e1,e2];simp
theorem nz_ {D:Tab} (nd:(D.map (·.1)).Nodup) (k:List Int) (v:Int):((iJ_ D k v).map (·.1)).Nodup:=by
 rw [jb_];split
 .exact nd
 .rename_i h;rw [List.nodup_append];exact⟨nd,by simp,fun a ha b hb=>by simp at hb;subst hb;exact fun e=>h (e▸ha)⟩
def inP (t:List Int) (v:Int) (p:Nat) (rs:List (List Nat)) (acc:Tab):Tab:=rs.foldl (fun acc r=>pD_ acc (iv_ t p r) (v*fr_ t p r)) acc
def stP (p:Nat) (rs:List (List Nat)) (xs acc:Tab):Tab:=xs.foldl (fun acc x=>inP x.1 x.2 p rs acc) acc
def px_ (g:List Int->Int) (p:Nat) (rs:List (List Nat)) (t:List Int):Int:=(rs.map fun r=>fr_ t p r*g (iv_ t p r)).sum
def TF (cnt:Lf->Nat):List Lf->List Int->Int
 |[],_=>1
 |m::ms,t=>px_ (TF cnt ms) (m.1-1).toNat (spR (m.2.1-m.1-1).toNat (cnt m)) t
def hmF (d:Nat) (mk:List Lf):Int:=TF (fun m=>mk.count m) (gD_ mk) (List.replicate d 0)
theorem ml_ (D:Tab):d7_ D (fun _=>1)=(D.map (·.2)).sum:=by
 unfold d7_;congr 1
 refine Bx fun x _=> ?_;show x.2*1=x.2;lia
theorem f7_:∀(N:Nat) (xs:List Nat),xs.Nodup->(∀x∈xs,x<N)->xs.length<=N
 |0,[],_,_=>A5 _
 |0,x::xs,_,h=>absurd (h x (by simp)) (by lia)
 |N+1,xs,nd,h=>by
  have h1:=f7_ N (xs.filter fun x=>decide (x≠N)) (nd.filter _) fun x hx=>by
   obtain⟨a,b⟩:=Cr.mp hx;have:=h x a;have:x≠N:=by simpa using b
   lia
  have h2:xs.length<=(xs.filter fun x=>decide (x≠N)).length+1:=by
   clear h1 h;induction xs with
   |nil=>simp
   |cons y ys ih=>
    rw [Ba] at nd;by_cases e:y=N
    .subst e;have:(ys.filter fun x=>decide (x≠y))=ys:=by
      rw [List.filter_eq_self];intro z hz;simp;rintro rfl;exact nd.1 hz
     rw [List.filter_cons,A7 (by simp),this,Ag];exact A5 _
    .have:=ih nd.2;rw [List.filter_cons,A9 (by simpa using e),Ag,Ag];lia
  lia
def dZ_ (t:List Int):List Key:=t.map Sum.inl
theorem eQ_ (t:List Int):(dZ_ t).map kV=t.map V.int:=by unfold dZ_;rw [Bf];rfl
theorem jd_:∀{t u:List Int},dZ_ t=dZ_ u->t=u
 |[],[],_=>rfl
 |[],_::_,h=>by simp [dZ_] at h
 |_::_,[],h=>by simp [dZ_] at h
 |x::t,y::u,h=>by
  simp only [dZ_,AW,List.cons.injEq,Sum.inl.injEq] at h;rw [h.1,jd_ (t:=t) (u:=u) h.2]
theorem gp_ {t u:List Int}:dZ_ t=dZ_ u↔t=u:=⟨jd_,fun e=>by rw [e]⟩
def c5_ (D:Tab):List (List Key×V):=D.map fun x=>(dZ_ x.1,V.int x.2)
theorem fN_ (D:Tab):(c5_ D).length=D.length:=by unfold c5_;rw [A2]
theorem fM_ (D:Tab) (k:List Int) (v:Int):gR_ (c5_ D) (dZ_ k) (.int v)=c5_ (iJ_ D k v):=by
 have e:((c5_ D).any fun kv=>decide (kv.1=dZ_ k))=(D.any fun x=>decide (x.1=k)):=by
  unfold c5_;rw [List.any_map];congr 1
  funext x
  simp only [Function.comp,gp_]
 unfold gR_ iJ_;rw [e];split
 .unfold c5_;rw [Bf,Bf];refine Bx fun x _=> ?_;simp only [Function.comp,gp_];split<;>rfl
 .unfold c5_;rw [AL];rfl
theorem d6_ (D:Tab) (k:List Int):hO_ (c5_ D) (dZ_ k)=(D.find? fun x=>decide (x.1=k)).map fun x=>V.int x.2:=by
 unfold hO_ c5_;rw [List.find?_map,Option.map_map];have:((fun kv:List Key×V=>decide (kv.1=dZ_ k))∘fun x:List Int×Int=>(dZ_ x.1,V.int x.2))=fun x=>decide (x.1=k):=by
  funext x
  simp only [Function.comp,gp_]
 rw [this];rfl
theorem mj_ (D:Tab) (k:List Int):(hO_ (c5_ D) (dZ_ k)).getD (.int 0)= .int (hP_ D k):=by
 rw [d6_];unfold hP_;cases D.find? fun x=>decide (x.1=k)<;>rfl
theorem oa_ {D:Tab} (nd:(D.map (·.1)).Nodup) {x:List Int×Int} (h:x∈D):hO_ (c5_ D) (dZ_ x.1)=some (.int x.2):=by
 rw [d6_];have:D.find? (fun y=>decide (y.1=x.1))=some x:=by
  induction D with
  |nil=>simp at h
  |cons y D ih=>
   rw [AW,Ba] at nd;rcases AN.mp h with rfl|h
   .simp
   .have:y.1≠x.1:=fun e=>nd.1 (Aa.mpr ⟨x,h,e.symm⟩);rw [Bh,AR this];exact ih nd.2 h
 rw [this];rfl
theorem km_ (D:Tab):(c5_ D).map (·.2)=(D.map (·.2)).map V.int:=by unfold c5_;rw [Bf,Bf];rfl
def prD (x:List Int×Int):D:= .t [tI x.1, .i x.2]
theorem m7_ (l:List Lf) (x:Lf):(List.range l.length).countP (fun j=>decide (l.getD j (0,0,0)=x))=l.count x:=by
 have e:(List.range l.length).map (fun j=>l.getD j (0,0,0))=l:=by
  apply List.ext_getElem?;intro i;rw [A6];rcases BP i l.length with c|c
  .rw [List.getElem?_range c];simp [List.getD,c]
  .rw [List.getElem?_eq_none (by simpa using c),List.getElem?_eq_none c];rfl
 conv=>rhs;rw [<-e]
 rw [List.count,List.countP_map];congr 1
 funext j
 simp only [Function.comp];exact(Bool.beq_eq_decide_eq _ _).symm
theorem hr_:∀(l S:List Lf),S.Nodup->(S.map fun m=>l.count m).sum<=l.length
 |[],S,_=>by
  have:(S.map fun m=>List.count m ([]:List Lf))=S.map fun _=>0:=by simp
  rw [this];induction S with
  |nil=>simp
  |cons a S ih=>rename_i nd;simpa using ih (Ba.mp nd).2
 |x::l,S,nd=>by
  have ih:=hr_ l S nd;have:(S.map fun m=>(x::l).count m).sum<=(S.map fun m=>l.count m).sum+1/\(x∉S->(S.map fun m=>(x::l).count m).sum=(S.map fun m=>l.count m).sum):=by
   clear ih;induction S with
   |nil=>simp
   |cons a S ih=>
    obtain⟨n1,n2⟩:=Ba.mp nd;obtain⟨i1,i2⟩:=ih n2;simp only [AW,C2];by_cases e:x=a
    .subst e;have:=i2 n1;rw [List.count_cons_self];exact⟨by lia,fun h=>absurd (by simp) h⟩
    .have e':List.count a (x::l)=List.count a l:=List.count_cons_of_ne e;rw [e'];exact⟨by lia,fun h=>by rw [i2 (fun z=>h (by simp [z]))]⟩
  rw [Ag];lia
def qY_:Bool:=(List.range 27).all fun n=>(List.range (n+1)).all fun k=>decide (0<=chF (n:Int) k)&&decide (chF (n:Int) k<=10400600)&&(decide (3<k)||decide (chF (n:Int) k<=2600))
theorem m9_:qY_=true:=by ac_nf
theorem pi_ {n:Int}{k:Nat} (h1:(k:Int)<=n) (h2:n<=26):0<=chF n k/\chF n k<=10400600/\(k<=3->chF n k<=2600):=by
 obtain⟨m,rfl⟩:=Ak (show 0<=n by lia);have h:=m9_;unfold qY_ at h;rw [Ao] at h;have h:=h m (BN.mpr (by lia));rw [Ao] at h;have h:=h k (BN.mpr (by lia));simp only [AE,Bi,Au] at h;exact⟨h.1.1,h.1.2,fun h3=>by rcases h.2 with z|z;lia;exact z⟩
theorem dL_:∀{r:List Nat}{x:Nat},x∈r->x<=r.sum
 |y::r,x,h=>by
  rw [C2];rcases AN.mp h with rfl|h
  .lia
  .have:=dL_ h;lia
theorem gC_:∀{r:List Nat}{t:List Int}{p i:Nat},p+r.length<=t.length->(iv_ t p r).length=t.length/\(iv_ t p r).getD i 0=t.getD i 0+(if p<=i/\i<p+r.length then((r.getD (i-p) 0:Nat):Int) else 0)
 |[],t,p,i,_=>by
  rw [A7 (by simp)];simp [iv_]
 |s::r,t,p,i,h=>by
  have hp:p<t.length:=by simp at h;lia
  obtain⟨e1,e2⟩:=gC_ (r:=r) (t:=wmF t p (s:Int)) (p:=p+1) (i:=i) (by rw [gF_];simp at h;lia);unfold iv_;refine⟨by rw [e1,gF_], ?_⟩;rw [e2,md_ hp];simp only [Ag];by_cases c:p=i
  .subst c;rw [A9 rfl,A7 (by lia),A9 (by lia),Nat.sub_self];simp
  .rw [A7 c];by_cases d:p+1<=i/\i<p+1+r.length
   .rw [A9 d,A9 (by lia),show i-p=(i-(p+1))+1 by lia,Cv];lia
   .rw [A7 d,A7 (by lia)];lia
def KC (d:Nat) (C:Nat->Int) (t:List Int):Prop:=t.length=d/\∀i:Nat,0<=t.getD i 0/\t.getD i 0<=C i
theorem KC.add {d p:Nat}{C C':Nat->Int}{t:List Int}{r:List Nat} (h:KC d C t) (hl:p+r.length<=d) (h1:∀i,C i<=C' i) (h2:∀i,p<=i->i<p+r.length->C i+(r.sum:Nat)<=C' i):KC d C' (iv_ t p r):=by
 refine⟨by rw [(gC_ (i:=0) (by rw [h.1];exact hl)).1,h.1],fun i=> ?_⟩;rw [(gC_ (i:=i) (by rw [h.1];exact hl)).2];have a:=h.2 i;have b:=h1 i;by_cases c:p<=i/\i<p+r.length
 .rw [A9 c];have e:=h2 i c.1 c.2;have:r.getD (i-p) 0<=r.sum:=by
   rw [AD,A1 (show i-p<r.length by lia)];exact dL_ (By _)
  lia
 .rw [A7 c];lia
structure TabP (K:List Int->Prop) (D:Tab):Prop where
 nd:(D.map (·.1)).Nodup
 key:∀x∈D,K x.1
theorem TabP.nil {K:List Int->Prop}:TabP K []:=⟨by simp,fun _ h=>nomatch h⟩
theorem TabP.add {K:List Int->Prop}{D:Tab} (h:TabP K D) {k:List Int}{v:Int} (hk:K k):TabP K (pD_ D k v):=by
 refine⟨nz_ h.nd _ _,fun x hx=> ?_⟩;have:x.1∈(iJ_ D k (hP_ D k+v)).map (·.1):=Cu hx;rw [jb_] at this;have:x.1∈D.map (·.1)\/x.1=k:=by
  split at this
  .exact .inl this
  .rcases Cs.mp this with h|h
   .exact .inl h
   .exact .inr (by simpa using h)
 rcases this with h'|h'
 .obtain⟨y,hy,e⟩:=Aa.mp h';rw [<-e];exact h.key y hy
 .rw [h'];exact hk
def ps_ (p:Nat) (K K':List Int->Prop) (rs:List (List Nat)):Prop:=∀r∈rs,∀t,K t->K' (iv_ t p r)
theorem oX_ {K K':List Int->Prop}{p:Nat}{t:List Int}{v:Int} (h:K t) (g:List Int->Int):∀{rs:List (List Nat)}{acc:Tab},ps_ p K K' rs->TabP K' acc->TabP K' (inP t v p rs acc)/\d7_ (inP t v p rs acc) g=d7_ acc g+v*px_ g p rs t
 |[],acc,_,ha=>by simp [inP,px_,ha]
 |r::rs,acc,hr,ha=>by
  have a1:=ha.add (v:=v*fr_ t p r) (hr r (by simp) t h);obtain⟨b1,b2⟩:=oX_ (v:=v) h g (rs:=rs) (fun r' h'=>hr r' (by simp [h'])) a1;refine⟨b1, ?_⟩;show d7_ (inP t v p rs (pD_ acc (iv_ t p r) (v*fr_ t p r))) g=_;rw [b2,mk_ ha.nd];simp only [px_,AW,C2];rw [Int.mul_add,Int.mul_assoc];lia
theorem oe_ {K K':List Int->Prop}{p:Nat}{rs:List (List Nat)} (hr:ps_ p K K' rs) (g:List Int->Int):∀{xs acc:Tab},(∀x∈xs,K x.1)->TabP K' acc->TabP K' (stP p rs xs acc)/\d7_ (stP p rs xs acc) g=d7_ acc g+d7_ xs (px_ g p rs)
 |[],acc,_,ha=>by simp [stP,d7_,ha]
 |x::xs,acc,hx,ha=>by
  obtain⟨a1,a2⟩:=oX_ (v:=x.2) (hx x (by simp)) g hr ha;obtain⟨b1,b2⟩:=oe_ hr g (xs:=xs) (fun y hy=>hx y (by simp [hy])) a1;refine⟨b1, ?_⟩;show d7_ (stP p rs xs (inP x.1 x.2 p rs acc)) g=_;rw [b2,a2];simp only [d7_,AW,C2];lia
def enc:List Int->Nat
 |[]=>0
 |x::t=>x.toNat+27*enc t
theorem nR_:∀{t:List Int},(∀i:Nat,0<=t.getD i 0/\t.getD i 0<=26)->enc t<27^t.length
 |[],_=>by simp [enc]
 |x::t,h=>by
  have h0:=h 0;have ih:=nR_ (t:=t) fun i=>by have:=h (i+1);simpa using this
  simp only [List.getD_cons_zero] at h0;unfold enc;rw [Ag,Nat.pow_succ];lia
theorem lQ_:∀{t u:List Int},t.length=u.length->(∀i:Nat,0<=t.getD i 0/\t.getD i 0<=26)->(∀i:Nat,0<=u.getD i 0/\u.getD i 0<=26)->enc t=enc u->t=u
 |[],[],_,_,_,_=>rfl
 |[],_::_,h,_,_,_=>absurd h (by simp)
 |_::_,[],h,_,_,_=>absurd h (by simp)
 |x::t,y::u,hl,ht,hu,e=>by
  have h0:=ht 0;have h1:=hu 0;simp only [List.getD_cons_zero] at h0 h1;unfold enc at e;have ih:=lQ_ (t:=t) (u:=u) (by simpa using hl) (fun i=>by have:=ht (i+1);simpa using this) (fun i=>by have:=hu (i+1);simpa using this) (by lia);rw [ih,show x=y by lia]
theorem TabP.size {d:Nat}{C:Nat->Int}{D:Tab} (h:TabP (KC d C) D) (hd:d<=4) (hC:∀i,C i<=26):D.length<=1048576:=by
 have hb:∀x∈D,∀i:Nat,0<=x.1.getD i 0/\x.1.getD i 0<=26:=fun x hx i=>by
  have:=(h.key x hx).2 i;have:=hC i;lia
 have:=f7_ (27^d) (D.map fun x=>enc x.1) ?_ ?_
 .rw [A2] at this;have:27^d<=27^4:=CD (by decide) hd;lia
 .have nd:=h.nd;unfold List.Nodup at nd⊢;rw [Cb] at nd⊢;refine List.Pairwise.imp_of_mem (fun{a b} ha hb' hne e=>hne ?_) nd;exact lQ_ (by rw [(h.key a ha).1,(h.key b hb').1]) (hb a ha) (hb b hb') e
 .intro x hx;obtain⟨y,hy,rfl⟩:=Aa.mp hx;have:=nR_ (hb y hy);rw [(h.key y hy).1] at this;exact this
theorem nq_:∀{r:List Nat}{t:List Int}{p:Nat},(∀i:Nat,0<=t.getD i 0)->(∀i:Nat,i<r.length->t.getD (p+i) 0+((r.getD i 0:Nat):Int)<=26/\r.getD i 0<=3)->0<=fr_ t p r/\fr_ t p r<=2600^r.length
 |[],t,p,_,_=>by simp [fr_]
 |s::r,t,p,h,hs=>by
  have a0:=hs 0 (by simp);simp only [List.getD_cons_zero,Nat.add_zero] at a0;have a2:=h p;obtain⟨c1,_,c2⟩:=pi_ (n:=t.getD p 0+(s:Int)) (k:=s) (by lia) (by lia);obtain⟨q1,q2⟩:=nq_ (r:=r) (t:=t) (p:=p+1) h fun i hi=>by
   have:=hs (i+1) (by simpa using hi)
   rwa [Cv,show p+(i+1)=p+1+i by lia] at this
  unfold fr_;refine⟨Int.mul_nonneg c1 q1, ?_⟩;rw [Ag,Cc,Int.mul_comm];exact Int.mul_le_mul q2 (c2 a0.2) c1 (Int.pow_nonneg (by decide))
theorem p5_ {r:List Nat}{t:List Int}{p g a:Nat} (h:∀i:Nat,0<=t.getD i 0) (hr:r.length=g+1/\r.sum=a) (hs:∀i:Nat,p<=i->i<=p+g->t.getD i 0+(a:Int)<=26) (hg:g<=3) (ha:g=0\/a<=3): -(2^64)<fr_ t p r/\fr_ t p r<2^64:=by
 have le:∀i:Nat,i<r.length->r.getD i 0<=a:=fun i hi=>by
  rw [<-hr.2,AD,A1 hi];exact dL_ (By _)
 rcases ha with rfl|ha
 .match r,hr with
  |[s],hr=>
   have es:s=a:=by simpa using hr.2
   have:=hs p (A5 _) (by lia);have h0:=h p;obtain⟨c1,c2,_⟩:=pi_ (n:=t.getD p 0+(s:Int)) (k:=s) (by lia) (by lia);unfold fr_ fr_;rw [Int.mul_one];lia
  |[],hr=>exact absurd hr.1 (by simp)
  |a::b::r,hr=>exact absurd hr.1 (by simp)
 .obtain⟨q1,q2⟩:=nq_ (r:=r) (t:=t) (p:=p) h fun i hi=>by
   have:=hs (p+i) (by lia) (by lia);have:=le i hi;lia
  have:(2600:Int)^r.length<=2600^4:=by
   have hl:r.length<=4:=by lia
   have:∀n:Nat,n<=4->(2600:Int)^n<=2600^4:=by decide
   exact this _ hl
  lia
def cov (q:Nat) (m:Lf):Bool:=decide (m.1-1<=(q:Int))&&decide ((q:Int)<m.2.1-1)
def hK_ (mk S:List Lf) (q:Nat):Int:=((S.map fun m=>(mk.filter (cov q)).count m).sum:Nat)
def MkW (d:Nat) (mk:List Lf):Prop:=(∀m∈mk,1<=m.1/\m.1<m.2.1/\m.2.1<=(d:Int)+1)/\mk.length<=500/\(∀q:Nat,(mk.filter (cov q)).length<=26)/\(∀m∈mk,m.1+1<m.2.1->mk.count m<=3)/\(gD_ mk).length<60
theorem qZ_ {mk S:List Lf} (hS:S.Nodup) (h:∀q:Nat,(mk.filter (cov q)).length<=26) (q:Nat):hK_ mk S q<=26:=by
 have:=hr_ (mk.filter (cov q)) S hS;have:=h q;unfold hK_;lia
theorem jx_ {mk S:List Lf}{x:Lf} (q:Nat):hK_ mk (S++[x]) q=hK_ mk S q+((mk.filter (cov q)).count x:Nat):=by
 unfold hK_;rw [AL,List.sum_append];simp
theorem pk_ {mk:List Lf}{x:Lf}{q:Nat} (h:cov q x=true):(mk.filter (cov q)).count x=mk.count x:=List.count_filter h
def dQ_ (ps:List Lf):Int:=ps.foldl (fun a p=>a*p.2.2^2) 1
def inF (j:Int) (p:Lf):Bool:=decide (p.1<j)&&decide (j<=p.2.1)
def ff_ (ps:List Lf) (j:Int):Int:=((ps.filter (inF j)).map (·.2.2)).sum
def cw_ (ps:List Lf):Int:=le_ (ps.map (·.2.1))
def qX_ (ps:List Lf):Int:=(ps.map fun p=>(p.2.1-p.1)*p.2.2-1).sum
def dX_ (ps:List Lf) (n:Nat):List Int:=(List.range n).map fun i:Nat=>ff_ ps (1+(i:Int))-(1+(i:Int))+1
def OkP (p:Lf):Prop:=0<=p.1/\p.1<p.2.1/\p.2.1<=40/\1<=p.2.2/\p.2.2<=4
def OkT (ps:List Lf):Prop:=ps.length<=20/\(∀p∈ps,OkP p)/\∃p∈ps,p.1=0
theorem iu_ (ns:List Int):∀k,(argBest (fun i j=>decide (ns.getD i 0>ns.getD j 0)) k)<=k/\∀i,i<=k->ns.getD i 0<=ns.getD (argBest (fun i j=>decide (ns.getD i 0>ns.getD j 0)) k) 0
 |0=>⟨A5 _,fun i hi=>by rw [show i=0 by lia];exact Int.le_refl _⟩
 |k+1=>by
  obtain⟨h1,h2⟩:=iu_ ns k;unfold argBest;generalize argBest (fun i j=>decide (ns.getD i 0>ns.getD j 0)) k=m at h1 h2;by_cases c:ns.getD (k+1) 0>ns.getD m 0
  .rw [A9 (Ah c)];refine⟨A5 _,fun i hi=> ?_⟩;by_cases e:i=k+1
   .rw [e];exact Int.le_refl _
   .have:=h2 i (by lia);lia
  .rw [A7 (by rw [AR c];decide)];refine⟨by lia,fun i hi=> ?_⟩;by_cases e:i=k+1
   .rw [e];lia
   .exact h2 i (by lia)
theorem oI_ {ns:List Int}{x:Int} (h:x∈ns):x<=le_ ns:=by
 obtain⟨i,hi,rfl⟩:=Bg.mp h;have:=(iu_ ns (ns.length-1)).2 i (by lia);rw [AD,A1 hi] at this;exact this
theorem iZ_ {ns:List Int} (h:0<ns.length):le_ ns∈ns:=by
 have h1:=(iu_ ns (ns.length-1)).1;unfold le_;generalize argBest (fun i j=>decide (ns.getD i 0>ns.getD j 0)) (ns.length-1)=m at h1;rw [AD,A1 (by lia)];exact By _
theorem nl_:∀{ns:List Int}{x:Int},x∈ns->(∀n∈ns,0<=n)->x<=ns.sum
 |n::ns,x,hx,h=>by
  rw [C2];have h0:=h n (by simp);have hs:0<=ns.sum:=by
   have:∀ms:List Int,(∀m∈ms,0<=m)->0<=ms.sum:=fun ms=>by
    induction ms with
    |nil=>intro _;simp
    |cons m ms ih=>intro hm;rw [C2];have:=hm m (by simp);have:=ih fun k hk=>hm k (by simp [hk]);lia
   exact this ns fun k hk=>h k (by simp [hk])
  rcases AN.mp hx with e|hx
  .lia
  .have:=nl_ hx fun k hk=>h k (by simp [hk]);lia
theorem mM_ {ps:List Lf} (h:OkT ps):1<=ff_ ps 1:=by
 obtain⟨_,hp,p,hm,h0⟩:=h;obtain⟨p1,p2,p3,p4,p5⟩:=hp p hm;have:p.2.2<=ff_ ps 1:=by
  refine nl_ (Aa.mpr ⟨p,Cr.mpr ⟨hm, ?_⟩,rfl⟩) fun n hn=> ?_
  .unfold inF;rw [Ah (show p.1<1 by lia),Ah (show 1<=p.2.1 by lia)];rfl
  .obtain⟨q,hq,rfl⟩:=Aa.mp hn;have:=(hp q (Cr.mp hq).1).2.2.2.1;lia
 lia
theorem qA_ {ps:List Lf} (h:OkT ps):1<=cw_ ps/\cw_ ps<=40:=by
 obtain⟨_,hp,p,hm,h0⟩:=h;have m:cw_ ps∈ps.map (·.2.1):=iZ_ (by rw [A2];cases ps with|nil=>cases hm|cons=>simp);obtain⟨q,hq,e⟩:=Aa.mp m;obtain⟨q1,q2,q3,q4,q5⟩:=hp q hq;have e:q.2.1=cw_ ps:=e;lia
theorem hd_ (ps:List Lf) (n:Nat):(dX_ ps n).length=n:=by simp [dX_]
theorem i6_ {ps:List Lf}{n i:Nat} (h:i<n):ff_ ps (1+(i:Int))-(1+(i:Int))+1<=le_ (dX_ ps n):=oI_ (Aa.mpr ⟨i,BN.mpr h,rfl⟩)
def cD (L:List (List Lf)) (i j:Nat):Option Bool:=L[i]?.bind fun x=>L[j]?.map fun y=>g4_ x y
def g7_ (i j:Int) (k n:Nat):List Lf:=((List.range n).map fun w:Nat=>((i,j,1+(w:Int)):Lf)).filter fun p=>decide (1<=b7_ p)&&decide (b7_ p<=(k:Int))
def eN_ (i:Nat) (k m:Nat):List Lf:=(List.range m).flatMap fun j:Nat=>g7_ (i:Int) ((i:Int)+1+(j:Int)) k (k+1)
def cn_ (k n:Nat):List Lf:=(List.range n).flatMap fun i:Nat=>eN_ i k (k+1-i)
def gh_:Nat->List Lf->Int->List (List Lf)
 |0,_,_=>[]
 |n+1,ls,k=>if k=0 then [[]] else(List.range ls.length).flatMap fun i=>match ls[i]? with
  |none=>[]
  |some p=>if b7_ p<=k then(gh_ n (ls.drop i) (k-b7_ p)).map (p:: ·) else []
def jR_ (n:Nat) (ls:List Lf) (k:Int) (i:Nat):List (List Lf):=match ls[i]? with
  |none=>[]
  |some p=>if b7_ p<=k then(gh_ n (ls.drop i) (k-b7_ p)).map (p:: ·) else []
theorem gf_ (n:Nat) (ls:List Lf) (k:Int):gh_ (n+1) ls k=if k=0 then [[]] else(List.range ls.length).flatMap (jR_ n ls k):=rfl
def oW_ (n:Int) (ps:List Lf):Bool:=ps.any fun p=>decide (p.1<n)&&decide (n<p.2.1)
def lC_ (ps:List Lf):Bool:=decide ((ps.getD 0 (1,0,0)).1=0)&&(List.range ((cw_ ps).toNat-1)).all fun i:Nat=>oW_ (1+(i:Int)) ps
def dU_ (k:Nat):List (List Lf):=(gh_ 4 (cn_ k (k+1)) k).filter lC_
def oT (k:Nat):Option (Array Nat):=eu_ (cD (dU_ k)) (dU_ k).length
def sT (k:Nat):List (List Lf):=if(dU_ k).length<2 then dU_ k else((oT k).getD #[]).toList.map fun i=>(dU_ k).getD i []
def sZ_ (ps:List Lf):Bool:=(List.range (ps.map e8_).length).all fun j=>(List.range j).all fun i=> !(ltI ((ps.map e8_).getD j []) ((ps.map e8_).getD i []))
def tmB (k:Nat) (ps:List Lf):Bool:=decide (ps≠[])&&sZ_ ps&&(ps.all fun p=>decide (0<=p.1)&&decide (p.1<p.2.1)&&decide (p.2.1<=10)&&decide (1<=p.2.2)&&decide (p.2.2<=4)&&decide (2<=(p.2.1-p.1)*p.2.2))&&decide ((ps.getD 0 (1,0,0)).1=0)&&decide (qX_ ps=k)&&((List.range ((cw_ ps).toNat-1)).all fun i:Nat=>oW_ (1+(i:Int)) ps)&&decide (ps.length<=10)
def q7_:List (List Lf)->Bool
 |x::y::r=>g4_ x y&&q7_ (y::r)
 |_=>true
def lgB (p:Lf):Bool:=decide (0<=p.1)&&decide (p.1<p.2.1)&&decide (p.2.1<=10)&&decide (1<=p.2.2)&&decide (p.2.2<=10)&&decide (1<=b7_ p)
def pwB:List Lf->Bool
 |[]=>true
 |x::r=>(r.all fun y=>eK_ x y)&&pwB r
def okT (k:Nat):Bool:=(cn_ k (k+1)).all lgB&&pwB (cn_ k (k+1))&&decide ((cn_ k (k+1)).length<=100)&&decide ((gh_ 4 (cn_ k (k+1)) k).length<=900)
def os_ (k:Nat) (S:List (List Lf)):Bool:=decide ((dU_ k).length<=1000)&&S.all (tmB k)&&q7_ S&&(dU_ k).all fun w=>S.contains w
def j5_ (k:Nat):Prop:=okT k=true/\(¬(dU_ k).length<2->∃p,eu_ (cD (dU_ k)) (dU_ k).length=some p/\p.size<=1000/\∀i∈p.toList,i<(dU_ k).length)/\(dU_ k).length<=1000/\(∀w∈sT k,tmB k w=true)/\q7_ (sT k)=true/\∀w∈dU_ k,w∈sT k
theorem mt_ {k:Nat}{S:List (List Lf)} (h:os_ k S=true):(dU_ k).length<=1000/\(∀w∈S,tmB k w=true)/\q7_ S=true/\∀w∈dU_ k,w∈S:=by
 unfold os_ at h;simp only [AE,Au,Ao,List.contains_iff_mem] at h;obtain⟨⟨⟨e2,e3⟩,e4⟩,e5⟩:=h;exact⟨e2,e3,e4,e5⟩
theorem dC_ {k:Nat}{p:List Nat} (hk:okT k=true) (hl:¬(dU_ k).length<2) (ho:oT k=some p.toArray) (hp:(decide (p.length<=1000)&&p.all fun i=>decide (i<(dU_ k).length))=true) (hr:os_ k (p.map fun i=>(dU_ k).getD i [])=true):j5_ k:=by
 have e:sT k=p.map fun i=>(dU_ k).getD i []:=by
  unfold sT;rw [A7 hl,ho];rfl
 simp only [AE,Au,Ao] at hp;unfold j5_;rw [e];exact⟨hk,fun _=>⟨p.toArray,ho,by simpa using hp.1,fun i hi=>hp.2 i (by simpa using hi)⟩,mt_ hr⟩
theorem st_:j5_ 1:=dC_ (p:=[0,1]) (by ac_nf) (by ac_nf) (by ac_nf) (by ac_nf) (by ac_nf)
theorem ss_:j5_ 2:=dC_ (p:=[0,1,2,3,4,5,6]) (by ac_nf) (by ac_nf) (by ac_nf) (by ac_nf) (by ac_nf)
theorem sr_:j5_ 3:=dC_ (p:=[0,1,2,3,4,5,6,7,8,9,10,11,12,13,14,15,16,17,18,19,20,21,22,23,24,25]) (by ac_nf) (by ac_nf) (by ac_nf) (by ac_nf) (by ac_nf)
theorem rb_ {k:Nat} (h1:1<=k) (h3:k<=3):j5_ k:=by
 have:k=1\/k=2\/k=3:=by lia
 rcases this with rfl|rfl|rfl
 .exact st_
 .exact ss_
 .exact sr_
def i0_ (ps:List Lf) (pl:Int):List Lf:=(ps.map fun p=>(p.1+1,p.2.1+1,p.2.2))++(List.range (cw_ ps).toNat).flatMap fun i:Nat=>List.replicate (pl+(1+(i:Int))-1-ff_ ps (1+(i:Int))).toNat ((1+(i:Int),1+(i:Int)+1,1):Lf)
def gE_ (ps:List Lf) (pl:Int):Int:=if pl<le_ (dX_ ps (cw_ ps).toNat) then 0 else hmF (cw_ ps).toNat (i0_ ps pl)
def rQ_ (d:Nat) (mk:List Lf):Bool:=(gD_ mk).all (fun m=>decide (1<=m.1)&&decide (m.1<m.2.1)&&decide (m.2.1<=(d:Int)+1)&&(decide (m.2.1<=m.1+1)||decide (mk.count m<=3)))&&decide (mk.length<=500)&&((List.range 4).all fun q=>decide ((mk.filter (cov q)).length<=26))&&decide ((gD_ mk).length<60)
theorem qu_ {d:Nat}{mk:List Lf} (hd:d<=4) (sm:∀z,z∈gD_ mk↔z∈mk) (h:rQ_ d mk=true):MkW d mk:=by
 unfold rQ_ at h;rw [AE,AE,AE,Ao,Ao] at h;obtain⟨⟨⟨h1,h2⟩,h3⟩,h4⟩:=h;have hm:∀m∈mk,1<=m.1/\m.1<m.2.1/\m.2.1<=(d:Int)+1/\(m.2.1<=m.1+1\/mk.count m<=3):=fun m hm=>by
  have:=h1 m ((sm m).mpr hm);simp only [AE,Bi,Au] at this;exact⟨this.1.1.1,this.1.1.2,this.1.2,this.2⟩
 refine⟨fun m h=>⟨(hm m h).1,(hm m h).2.1,(hm m h).2.2.1⟩,Ae h2,fun q=> ?_,fun m h hl=> ?_,Ae h4⟩
 .by_cases hq:q<4
  .exact Ae (h3 q (BN.mpr hq))
  .have:mk.filter (cov q)=[]:=by
    rw [List.filter_eq_nil_iff];intro m hmm;have:=hm m hmm;unfold cov;rw [AE,Au,Au];lia
   rw [this];exact AT _
 .rcases(hm m h).2.2.2 with z|z
  .lia
  .exact z
def hI_ (ps:List Lf):Int:=le_ (dX_ ps (cw_ ps).toNat)
def hvB (r:Int) (p:Lf):Bool:=decide (p.2.1=r)&&decide (p.2.2>1)
def oQ_ (d:Int) (ps:List Lf):Int:=if(ps.filter (hvB (cw_ ps))).length=0 then d+1-cw_ ps else d-cw_ ps
abbrev Rw:=Int×Int×Int×Int
def rwC (c:Nat) (ps:List Lf) (i:Nat):Rw:=((c:Int),hI_ ps+(i:Int),hI_ ps+(i:Int)+cw_ ps,gE_ ps (hI_ ps+(i:Int))*dQ_ ps)
def hH_ (d:Int) (c:Nat) (ps:List Lf) (n:Nat):List Rw:=(List.range n).map (rwC c ps)
def nP (d:Int) (ps:List Lf):Nat:=(oQ_ d ps+1-hI_ ps).toNat
def rn_ (d:Int) (c:Nat):List Rw:=(sT c).flatMap fun ps=>hH_ d c ps (nP d ps)
def kr_ (d:Int) (k:Nat):List Rw:=(List.range k).flatMap fun c=>rn_ d (c+1)
def cdF (S:List Rw):Nat->Nat->Int->Int
 |_,0,_=>1
 |0,_+1,_=>0
 |n+1,k+1,f=>(S.map fun r=>if r.1<=((k+1:Nat):Int)/\f<=r.2.1 then r.2.2.2*cdF S n (((k+1:Nat):Int)-r.1).toNat r.2.2.1 else 0).sum
def fh_ (d k:Nat):Int:=cdF (kr_ (d:Int) k) 3 k 1
def tpB (ps:List Lf):Bool:=decide (1<=cw_ ps)&&decide (cw_ ps<=4)&&decide (ps.length<=3)&&(ps.all fun p=>decide (0<=p.1)&&decide (p.1<p.2.1)&&decide (p.2.1<=4)&&decide (1<=p.2.2)&&decide (p.2.2<=4))&&(ps.any fun p=>decide (p.1=0))&&((List.range 4).all fun i=>decide (0<=ff_ ps (1+(i:Int))))&&decide (0<=dQ_ ps)&&decide (dQ_ ps<2^40)&&
 decide (hI_ ps<=6)&&((List.range 13).all fun e=>decide (nP ((e:Int)+1) ps<=13))&&(List.range 14).all fun i=>decide ((i:Int)+1<hI_ ps)||rQ_ (cw_ ps).toNat (i0_ ps ((i:Int)+1))
theorem sd_:((sT 1).all tpB&&decide ((sT 1).length<=30))=true:=by ac_nf
theorem sc_:((sT 2).all tpB&&decide ((sT 2).length<=30))=true:=by ac_nf
theorem sb_:((sT 3).all tpB&&decide ((sT 3).length<=30))=true:=by ac_nf
def rwB (k:Nat) (r:Rw):Bool:=decide (1<=r.1)&&decide (r.1<=(k:Int))&&decide (0<=r.2.1)&&decide (1<=r.2.2.1)&&decide (r.2.2.1<=20)&&decide (0<=r.2.2.2)&&decide (r.2.2.2<2^60)
def pC:Nat->List Int
 |0=>[1]
 |1=>[3,-6,3]
 |2=>[-66,81,12,-36,9]
 |_=>[1050,-829,-458,423,9,-54,9]
def bC:Nat->Int
 |0=>1
 |1=>1
 |_=>2
def hC:Nat->Nat
 |0=>1
 |1=>1
 |2=>1
 |_=>3
def ctB (k d:Nat):Bool:=(kr_ (d:Int) k).all (rwB k)&&decide ((kr_ (d:Int) k).length<=450)&&decide (0<=fh_ d k)&&decide (fh_ d k<2^100)&&(decide (d<hC k)||decide (ev (pC k) (d:Int)=fh_ d k*bC k))&&(decide (hC k<=d)||decide (d+1<hC k)||decide (ev (pC k) (d:Int)≠fh_ d k*bC k))
theorem qW_:((List.range 13).all fun e=>ctB 0 (1+e))=true:=by ac_nf
theorem qV_:((List.range 13).all fun e=>ctB 1 (1+e))=true:=by ac_nf
theorem qU_:((List.range 13).all fun e=>ctB 2 (1+e))=true:=by ac_nf
theorem qT_:((List.range 6).all fun e=>ctB 3 (1+e))=true:=by ac_nf
theorem qS_:((List.range 3).all fun e=>ctB 3 (7+e))=true:=by ac_nf
theorem ph_:((List.range 2).all fun e=>ctB 3 (10+e))=true:=by ac_nf
theorem pg_:((List.range 2).all fun e=>ctB 3 (12+e))=true:=by ac_nf
theorem ctf {k d:Nat} (k3:k<=3) (d1:1<=d) (d13:d<=13):ctB k d=true:=by
 have go:∀{k lo n:Nat},((List.range n).all fun e=>ctB k (lo+e))=true->∀{d:Nat},lo<=d->d<lo+n->ctB k d=true:=fun{k lo n} h {d} h1 h2=>by
  have:=Ao.mp h (d-lo) (BN.mpr (by lia))
  rwa [show lo+(d-lo)=d by lia] at this
 have:k=0\/k=1\/k=2\/k=3:=by lia
 rcases this with rfl|rfl|rfl|rfl
 .exact go qW_ d1 (by lia)
 .exact go qV_ d1 (by lia)
 .exact go qU_ d1 (by lia)
 .have:d<7\/(7<=d/\d<10)\/(10<=d/\d<12)\/12<=d:=by lia
  rcases this with h|h|h|h
  .exact go qT_ d1 (by lia)
  .exact go qS_ h.1 (by lia)
  .exact go ph_ h.1 (by lia)
  .exact go pg_ h (by lia)
theorem rP_ {zs ts:List Int}{b c s:Int}{n:Nat} (hl:Low zs b) (ht:Low ts c) (l1:zs.length<=n) (l2:ts.length<=n) (h:∀m:Nat,m<n->ev zs (s+m)*c=ev ts (s+m)*b):zs=ts/\b=c:=by
 obtain⟨hb,hg,hz⟩:=hl;obtain⟨hc,hg',ht⟩:=ht;obtain⟨ks,hk⟩:=Kp.ex _ (fO_ (zs.map (c* ·)) (ts.map (-b* ·))) rfl;have len:(fO_ (zs.map (c* ·)) (ts.map (-b* ·))).length<=n:=by
  unfold fO_;rw [aq_,aq_,Am,A2,A2];lia
 have z0:ks=[]:=by
  rcases hk.2 with q|q
  .exact q
  .cases e:ks.getLast? with
   |none=>exact List.getLast?_eq_none_iff.mp e
   |some x=>
    exfalso;have kl:=hk.len;refine f9_ ks.length ks s x rfl e (fun z=>q (by rw [e,z])) fun m hm=> ?_;have:=h m (by lia);rw [<-hk.ev,ij_,eY_,eY_]
    grind
 subst z0;have co:∀k,gz (zs.map (c* ·)) k=gz (ts.map (b* ·)) k:=fun k=>by
  have:=nL_ hk k;unfold fO_ at this;rw [eX_ _ 0 _ _ (by rw [aq_,Am];lia),eX_ _ 0 _ _ (by rw [Am];lia),jm_,bN_,bN_] at this;rw [bN_,bN_];simp at this
  grind
 have kp:∀{us:List Int}{x:Int},1<=x->(us=[]\/us.getLast? ≠some 0)->Kp (us.map (x* ·)) (us.map (x* ·)):=fun{us x} hx hu=>by
  refine⟨⟨0,by simp⟩, ?_⟩;rcases hu with q|q
  .left;rw [q];rfl
  .right;rw [gm_];cases e:us.getLast? with
   |none=>simp
   |some y=>
    rw [e] at q;simp at q⊢;lia
 have e:=(kp hc hz).same (kp hb ht) co;have e1:b=c:=by
  have g1:=dt_ c.natAbs zs b.natAbs;have g2:=dt_ b.natAbs ts c.natAbs;rw [show((c.natAbs:Nat):Int)=c by lia,hg,Nat.mul_one] at g1;rw [show((b.natAbs:Nat):Int)=b by lia,hg',Nat.mul_one,<-e,Nat.mul_comm] at g2;have:=g1.symm.trans g2;lia
 refine⟨?_,e1⟩;rw [e1] at e;refine(List.map_inj_right fun x y h=> ?_).mp e;exact Int.eq_of_mul_eq_mul_left (by lia) h
theorem q8_:∀k,k<4->1<=bC k/\dc_ (bC k).natAbs (pC k)=1/\(pC k=[]\/(pC k).getLast? ≠some 0):=by ac_nf
theorem iz_ {s b c x y:Int} (hb:0<b) (h:Vl s b x y):(x=c/\y=1)↔s=c*b:=by
 obtain⟨h1,h2⟩:=h;have gp:0<Nat.gcd b.natAbs s.natAbs:=Nat.gcd_pos_of_pos_left _ (by lia);have d1:((Nat.gcd b.natAbs s.natAbs:Nat):Int)∣s:=D6.mpr (Nat.gcd_dvd_right _ _);have d2:((Nat.gcd b.natAbs s.natAbs:Nat):Int)∣b:=D6.mpr (Nat.gcd_dvd_left _ _);rw [BY _ (by lia)] at h1 h2;have e1:=Cp d1;have e2:=Cp d2;rw [<-h1] at e1;rw [<-h2] at e2;constructor
 .rintro⟨rfl,rfl⟩;rw [Int.mul_one] at e2;rw [<-e1,e2,Int.mul_comm]
 .intro hs;have eg:Nat.gcd b.natAbs s.natAbs=b.natAbs:=by
   rw [hs,Cd];exact Nat.gcd_eq_left ⟨c.natAbs,Nat.mul_comm _ _⟩
  rw [eg,show((b.natAbs:Nat):Int)=b by lia] at e1 e2;have y1:y=1:=Int.eq_of_mul_eq_mul_left (show b≠0 by lia) (by rw [e2,Int.mul_one]);refine⟨Int.eq_of_mul_eq_mul_left (show b≠0 by lia) ?_,y1⟩;rw [e1,hs,Int.mul_comm]
theorem m6_ {ks:List Int}{i:Nat} (h:i<=ks.length):hJ_ (ks.map V.int) (some (i:Int)) none=(ks.drop i).map V.int:=by
 unfold hJ_;rw [HT.sIx_nat,HT.sIx_none,A2,CQ h,List.map_drop,Ca (by simp)]
theorem nZ_ {ks:List Int}{i:Nat} (h:i<ks.length):atI (ks.map V.int) (i:Int)=some (.int (ks.getD i 0)):=l5_ (by rw [A6,A1 h];simp [List.getD,h])
theorem q0_ {z:Int} (h0:0<z) (h1:z<=10^60):z≠0/\z.natAbs<2^512:=by
 have:(10:Nat)^60<2^512:=by decide
 constructor<;>lia
abbrev Bag (H:Hp) (b:Addr) (far st:Int):Prop:=H b=some (.lst [.int far, .int st])
def rp_ (K:W.Frag):Sp:=fun vs H Q _=>∃(a:Addr) (ns:List Int),vs=[.ref a]/\SqL K H a (ns.map V.int)/\ns.length<=1000/\
 ∀(l:Addr) (ks:List Int) (b:Nat) (H':Hp),ak_ H H'->H l=none->H' l=some (.lst (ks.map V.int))->ns=ks++List.replicate b 0->(ks=[]\/ks.getLast? ≠some 0)->Q (.ref l) H'
def pZ_ (K:W.Frag):Sp:=fun vs H Q _=>∃(a:Addr) (ns:List Int) (k:Int),vs=[.ref a, .int k]/\SqL K H a (ns.map V.int)/\0<=k/\∀z,Q (.int z) H
def rF_ (_:W.Frag):Sp:=fun vs H Q _=>∃(c pl:Int),vs=[.int c, .int pl]/\0<=pl/\pl<=100000/\∀(b:Addr) (far st:Int) (H':Hp),ak_ H H'->H b=none->Bag H' b far st->0<=far->0<=st->Q (.ref b) H'
def ol_ (_:W.Frag):Sp:=fun vs H Q _=>∃(b:Addr) (far st:Int),vs=[.ref b]/\Bag H b far st/\∀z st',0<=z->0<=st'->Q (.int z) (upd H b (.lst [.int far, .int st']))
def on_ (_:W.Frag):Sp:=fun vs H Q _=>∃(b:Addr) (many far st:Int),vs=[.ref b, .int many]/\Bag H b far st/\0<=far/\0<=st/\0<many/\many<=10^60/\∀z far' st',0<=z->z<many->0<=far'->0<=st'->Q (.int z) (upd H b (.lst [.int far', .int st']))
def But (b:Addr) (H H':Hp):Prop:=∀c o,H c=some o->c≠b->H' c=some o
def iC_ (K:W.Frag):Sp:=fun vs H Q _=>∃(a:Addr) (ns:List Int),vs=[.ref a]/\SqL K H a (ns.map V.int)/\ns.length<=63/\∀H',Q (.bl true) H'
theorem nM_ {l:List Int}{i:Nat} (h:i<l.length):(l.map V.int)[i]? =some (.int (l.getD i 0)):=by
 rw [A6,A1 h];simp [List.getD,h]
theorem iH_ (n:Nat):(List.replicate n [V.int 0]).flatten=(List.replicate n (0:Int)).map V.int:=by
 induction n with
 |zero=>rfl
 |succ n ih=>rw [Aj,Aj,C7,ih];rfl
def nn_ (f:List Int->List Int->List Int) (B:List Int->List Int->Prop) (K:W.Frag):Sp:=fun vs H Q _=>∃(a c:Addr) (xs ys:List Int),vs=[.ref a, .ref c]/\SqL K H a (xs.map V.int)/\SqL K H c (ys.map V.int)/\xs.length<=900/\ys.length<=900/\B xs ys/\
 ∀(l:Addr) (H':Hp),ak_ H H'->H l=none->H' l=some (.lst ((f xs ys).map V.int))->Q (.ref l) H'
def pv_ (H:Hp) (Q:VK) (P:List Int->Int->Prop):Prop:=∀(t l:Addr) (zs:List Int) (bt:Int) (H':Hp),ak_ H H'->H l=none->H' t=some (.tup [.ref l, .int bt])->H' l=some (.lst (zs.map V.int))->P zs bt->Q (.ref t) H'
def mn_ (_:W.Frag):Sp:=fun vs H Q _=>∃a b:Int,vs=[.int a, .int b]/\Q (.int (Nat.gcd a.natAbs b.natAbs:Nat)) H
def rt_ (K:W.Frag):Sp:=fun vs H Q _=>∃(a:Addr) (ts:List Int) (b:Int),vs=[.ref a, .int b]/\SqL K H a (ts.map V.int)/\0<b/\Q (.int (dc_ b.natAbs ts:Nat)) H
def r1_ (z1:List Int) (b1:Int) (z2:List Int) (b2:Int):List Int:=fO_ (z1.map (· *b2)) (z2.map (· *b1))
def qL_ (z1:List Int) (_:Int) (z2:List Int) (_:Int):List Int:=cv z1 z2 z1.length
structure Gv (z:List Int) (b:Int):Prop where
 len:z.length<=30
 bd:∀x∈z,x.natAbs<=2^87
 pos:1<=b
 top:b<=10^12
def ok_ (_:W.Frag):Sp:=fun vs H Q _=>∃(t p:Addr) (zs:List Int) (b c:Int),vs=[.ref t, .int c]/\H t=some (.tup [.ref p, .int b])/\H p=some (.lst (zs.map V.int))/\Gv zs b/\c.natAbs<=2^67/\
 ∀(u:Addr) (x y:Int) (H':Hp),ak_ H H'->H' u=some (.tup [.int x, .int y])->Vl (hor c zs.reverse) b x y->Q (.ref u) H'
def pU_ (K:W.Frag):Sp:=fun vs H Q _=>∃(a:Addr) (ns:List Int) (b:Int),vs=[.ref a, .int b]/\SqL K H a (ns.map V.int)/\ns.length<=900/\0<b/\b.natAbs<=2^500/\pv_ H Q (Lo ns b)
structure Gp (z:List Int) (b:Int):Prop where
 len:z.length<=20
 bd:Bn 2000 z
 pos:1<=b
 top:b.natAbs<=2^500
def nm_ (F:List Int->Int->List Int->Int->List Int) (_:W.Frag):Sp:=fun vs H Q _=>∃(t u p q:Addr) (z1 z2:List Int) (b1 b2:Int),vs=[.ref t, .ref u]/\H t=some (.tup [.ref p, .int b1])/\H p=some (.lst (z1.map V.int))/\H u=some (.tup [.ref q, .int b2])/\H q=some (.lst (z2.map V.int))/\
 Gp z1 b1/\Gp z2 b2/\(b1*b2).natAbs<=2^500/\pv_ H Q (Lo (F z1 b1 z2 b2) (b1*b2))
def ks_ (K:W.Frag):Sp:=fun vs H Q _=>∃(st:Int) (a:Addr) (ws:List Int),vs=[.int st, .ref a]/\SqL K H a (ws.map V.int)/\ws.length<=12/\Bn 200 ws/\st.natAbs<=2^40/\pv_ H Q (so_ st ws)
theorem m2_ {x b:Int}{g:Nat} (h1:0<b) (h2:b.natAbs<=2^500) (h3:0<g) (h4:g<=b.natAbs):CDB x (g:Int):=
 ⟨by lia,by rw [Int.natAbs_natCast];exact Br (Ai h4 h2) (Cm (by decide) (by decide))⟩
theorem iS_ (n:Nat):(1:Int).natAbs<=2^n:=Nat.one_le_two_pow
theorem But.of_same {b:Addr}{H H':Hp} (s:ak_ H H'):But b H H':=fun c o e _=>s _ _ e
theorem But.trans {b:Addr}{H H' H'':Hp} (s:But b H H') (t:But b H' H''):But b H H'':=fun c o e n=>t c o (s c o e n) n
theorem But.upd {b:Addr}{H:Hp}{o:HO}:But b H (L2.upd H b o):=fun c u e n=>by rw [aj_ n];exact e
theorem m5_ {vs:List V}{k:Nat}:hJ_ vs none (some (k:Int))=vs.take k:=by
 unfold hJ_;rw [HT.sIx_nat,HT.sIx_none,List.drop_zero,Nat.sub_zero];exact List.take_eq_take_iff.mpr (by lia)
def Lok (p:Lf):Prop:=0<=p.2.1-p.1/\p.2.1-p.1<=10/\1<=p.2.2/\p.2.2<=20
def pV_ (_:W.Frag):Sp:=fun vs H Q _=>∃(v:V) (p:Lf),vs=[v]/\Is H (lf p) v/\Lok p/\Q (.int (b7_ p)) H
theorem jh_ {H:Hp}{Wq:List (List Lf)}{vs:List V} (h:Iss H (Wq.map lfs) vs):∀(l:List Nat),(∀i∈l,i<Wq.length)->Iss H ((l.map fun i=>Wq.getD i []).map lfs) (l.map fun i=>vs.getD i .non)
 |[],_=>ax_
 |i::l,hl=>by
  have hi:i<Wq.length:=hl i (by simp);have hr:i<vs.length:=by rw [h.length,A2];exact hi
  refine az_ ?_ (jh_ h l fun j hj=>hl j (by simp [hj]));obtain⟨d,hd,h1⟩:=h.of_get (A1 hr);rw [A6,A1 hi] at hd;cases hd;show Is H (lfs (Wq.getD i [])) (vs.getD i .non);rw [AD,AD,A1 hi,A1 hr];exact h1
theorem mr_ {ps:List Lf}:∀x∈ps.map e8_,x.length=3:=fun x hx=>by
 obtain⟨p,_,rfl⟩:=Aa.mp hx;rfl
theorem oY_ {H H':Hp}{a:Addr} (k:But a H H'):ak_ (hid H a) H':=fun b o e=>by
 have hb:b≠a:=by rintro rfl;rw [mS_] at e;cases e
 rw [nJ_ hb] at e;exact k _ _ e hb
theorem hq_ {vs:List V}{i:Nat} (h:i<=vs.length):hJ_ vs (some (i:Int)) none=vs.drop i:=by
 unfold hJ_;rw [HT.sIx_nat,HT.sIx_none,CQ h,Ca (by simp)]
def ti (t:List Int):D:=tI t
def sF_ (_:W.Frag):Sp:=fun vs H Q _=>∃(v:V) (t:List Int) (p:Nat) (m:Int),vs=[v, .int p, .int m]/\Is H (tI t) v/\p<t.length/\t.length<=5/\∀u H',ak_ H H'->Is H' (tI (wmF t p m)) u->Q u H'
theorem pJ_ {t:List Int}{p:Nat} (H':Hp) (vs:List V) (h:Iss H' (t.map .i) vs):Iss H' ((t.take p).map .i) (hJ_ vs none (some (p:Int))):=by
 rw [m5_,List.map_take];exact h.take p
theorem n7_ {t:List Int}{p:Nat} (hp:p<=t.length) (H':Hp) (vs:List V) (h:Iss H' (t.map .i) vs):Iss H' ((t.drop p).map .i) (hJ_ vs (some (p:Int)) none):=by
 rw [hq_ (by rw [h.length,A2];exact hp),List.map_drop];exact h.drop p
theorem nw_:∀{g:Nat}{t:List Int}{p a:Nat},(pbF g t p a).length<=(a+1)^g
 |0,t,p,a=>by simp [pbF]
 |g+1,t,p,a=>by
  have go:∀n,n<=a+1->((List.range n).flatMap fun h:Nat=>(pbF g (wmF t p (h:Int)) (p+1) (a-h)).map fun x=>(x.1,chF (t.getD p 0+(h:Int)) h*x.2)).length<=n*(a+1)^g:=by
   intro n hn;induction n with
   |zero=>simp
   |succ n ih=>
    rw [bl_,AO,A2];have h1:=ih (by lia);have h2:=nw_ (g:=g) (t:=wmF t p (n:Int)) (p:=p+1) (a:=a-n);have h3:(a-n+1)^g<=(a+1)^g:=Nat.pow_le_pow_left (by lia) g;rw [Nat.succ_mul];lia
  have:=go (a+1) (A5 _);rw [Nat.pow_succ,Nat.mul_comm];exact this
theorem mD_ {g:Nat}{t:List Int}{p a:Nat} (hg:g<=5) (ha:a<=15):(pbF g t p a).length<=1048576:=by
 have h1:=nw_ (g:=g) (t:=t) (p:=p) (a:=a);have h2:(a+1)^g<=16^g:=Nat.pow_le_pow_left (by lia) g;have h3:16^g<=16^5:=CD (by decide) hg;lia
theorem oN_ {n:Nat} (h:n<=1048576):n<sizeLine:=by rw [B'];lia
theorem oS_ {H:Hp}{x:List Int×Int}{t:Addr}{u:V} (h:H t=some (.tup [u, .int x.2])) (k:Is H (tI x.1) u):Is H (prD x) (.ref t):=nD_ h (az_ k (az_ pA_ ax_))
theorem oE_ {H:Hp}{x:List Int×Int}{v:V} (h:Is H (prD x) v):∃t u,v= .ref t/\H t=some (.tup [u, .int x.2])/\Is H (tI x.1) u:=by
 obtain⟨t,vs,rfl,ht,hi⟩:=l9_ h;obtain⟨u1,us,rfl,hu1,hi⟩:=ba_ hi;obtain⟨u2,us,rfl,hu2,hi⟩:=ba_ hi;rw [cm_ hi,ee_ hu2] at ht;exact⟨t,u1,rfl,ht,hu1⟩
theorem kl_ {H H':Hp} (s:cL_ H H') {t:List Int}{v:V} (h:Is H (tI t) v):Is H' (tI t) v:=by
 obtain⟨a,rfl,ha⟩:=g0_ h;exact if_ (s _ _ ha)
theorem iM_ {H H':Hp} (s:cL_ H H') {x:List Int×Int}{v:V} (h:Is H (prD x) v):Is H' (prD x) v:=by
 obtain⟨a,u,rfl,ha,hu⟩:=oE_ h;exact oS_ (s _ _ ha) (kl_ s hu)
theorem kO_ {H H':Hp} (s:cL_ H H'):∀{xs:List (List Int×Int)}{vs:List V},Iss H (xs.map prD) vs->Iss H' (xs.map prD) vs
 |[],_,h=>by rw [cm_ h];exact ax_
 |x::xs,_,h=>by
  obtain⟨u,us,rfl,q,r⟩:=ba_ h;exact az_ (iM_ s q) (kO_ s r)
theorem qz_ {H:Hp}{p q:Lf}{v:V} (h:Is H (lf p) v) (k:Is H (lf q) v):p=q:=by
 obtain⟨a,rfl,ha⟩:=g1_ h;obtain⟨b,e,hb⟩:=g1_ k;cases e;rw [ha] at hb;obtain⟨a1,a2,a3⟩:=p;obtain⟨b1,b2,b3⟩:=q;simp at hb;simp [hb]
theorem pI_ {K:W.Frag}{H:Hp}{wt:List Lf}{m:Lf}{wvs:List V}{v:V} (h:Iss H (wt.map lf) wvs) (k:Is H (lf m) v):r7_ K H 1 wvs v (fun j=>decide (wt.getD j (0,0,0)=m)):=by
 have at_:∀(j:Nat) z,wvs[j]? =some z->Is H (lf (wt.getD j (0,0,0))) z:=fun j z hz=>by
  obtain⟨d,hd,h1⟩:=h.of_get hz;rw [A6] at hd;obtain⟨d',hd',rfl⟩:=A4.mp hd;rw [List.getD,hd'];exact h1
 refine⟨by decide,fun j z hz=>⟨?_,nQ_ (at_ j z hz) k⟩,fun i j z hi hj=> ?_⟩
 .obtain⟨a,e,_⟩:=g1_ (at_ j z hz);exact⟨a,e⟩
 .show decide (wt.getD i (0,0,0)=m)=decide (wt.getD j (0,0,0)=m);rw [qz_ (at_ i z hi) (at_ j z hj)]
theorem n6_ {K:W.Frag}{H:Hp}{wt:List Lf}{m:Lf}{wvs:List V}{v:V} (h:Iss H (wt.map lf) wvs) (k:Is H (lf m) v):pr_ K H 1 wvs v (fun j=>decide (wt.getD j (0,0,0)=m)):=by
 obtain⟨a,b,c⟩:=pI_ (K:=K) h k;exact⟨a,fun j z hz=>⟨(b j z hz).1,(b j z hz).2.told⟩,c⟩
theorem og_ (xs:List Lf):(gD_ xs).Nodup:=(hU_ xs).imp fun{a b} h e=>by subst e;exact gc_ h
theorem hn_ {α β:Type} (f:β->α->β) (b:β) (xs:List α) (j:Nat) (x:α) (h:xs[j]? =some x):(xs.take (j+1)).foldl f b=f ((xs.take j).foldl f b) x:=by
 rw [AM,h,List.foldl_append];rfl
theorem n9_ (cnt:Lf->Nat) (m:Lf) (ms:List Lf):TF cnt (m::ms)=px_ (TF cnt ms) (m.1-1).toNat (spR (m.2.1-m.1-1).toNat (cnt m)):=by funext t;rfl
theorem ii_ {p:Nat}{rs:List (List Nat)}{D:Tab}{j:Nat}{x:List Int×Int}{acc:Tab} (h:D[j]? =some x):stP p rs (D.take (j+1)) acc=inP x.1 x.2 p rs (stP p rs (D.take j) acc):=hn_ _ _ D j x h
theorem mi_ {H:Hp}{d:Addr}{kvs:List (List Key×V)}{o:HO} (h:H d=some (.dT kvs)):cL_ H (upd H d o):=(LTS.dict h).2
def rw_ (_:W.Frag):Sp:=fun vs H Q _=>∃(v:V) (ps:List Lf),vs=[v]/\Is H (lfs ps) v/\ps≠[]/\ps.length<=20/\∀H',ak_ H H'->Q (.int (cw_ ps)) H'
def pX_ (_:W.Frag):Sp:=fun vs H Q _=>∃(v:V) (ps:List Lf) (j:Int),vs=[v, .int j]/\Is H (lfs ps) v/\ps.length<=20/\∀H',ak_ H H'->Q (.int (ff_ ps j)) H'
def om_ (_:W.Frag):Sp:=fun vs H Q _=>∃(v:V) (ps:List Lf),vs=[v]/\Is H (lfs ps) v/\OkT ps/\∀H',ak_ H H'->Q (.int (le_ (dX_ ps (cw_ ps).toNat))) H'
def pW_ (_:W.Frag):Sp:=fun vs H Q _=>∃k:Nat,vs=[.int k]/\k<=3/\∀l H',ak_ H H'->H l=none->Is H' (lfs (cn_ k (k+1))) (.ref l)->Q (.ref l) H'
def ru_ (n:Nat) (_:W.Frag):Sp:=fun vs H Q _=>∃(v:V) (ls:List Lf) (k:Int),vs=[v, .int k]/\Is H (lfs ls) v/\(∀p∈ls,Lok p/\1<=b7_ p)/\0<=k/\k<n/\(gh_ n ls k).length<=1000/\ls.length<=200/\n<=100/\
 ∀l H',ak_ H H'->H l=none->Is (nw H H') (.l ((gh_ n ls k).map lfs)) (.ref l)->Q (.ref l) H'
def rv_ (_:W.Frag):Sp:=fun vs H Q _=>∃(v:V) (ps:List Lf) (n:Int),vs=[.int n,v]/\Is H (lfs ps) v/\ps.length<=20/\∀H',ak_ H H'->Q (.bl (oW_ n ps)) H'
def rz_ (_:W.Frag):Sp:=fun vs H Q _=>∃(v:V) (ps:List Lf),vs=[v]/\Is H (lfs ps) v/\ps.length<=20/\ps≠[]/\(∀p∈ps,1<=p.2.1/\p.2.1<=100)/\∀H',ak_ H H'->Q (.bl (lC_ ps)) H'
def rq_ (c:Addr):Sp:=fun vs H Q E=>∃v,vs=[v]/\ix_ H v/\(∀n:Nat,v= .int n->1<=n->n<=3->∀l H',ak_ H H'->H l=none->Is (nw H H') (.l ((sT n).map lfs)) (.ref l)->Q (.ref l) H')/\(¬Within 1 3 v->E (.ref c) none H)
theorem gg_:∀{n:Nat}{ls:List Lf}{k:Int}{x:List Lf},(∀p∈ls,1<=b7_ p)->x∈gh_ n ls k->x.length<=n/\∀p∈x,p∈ls
 |0,ls,k,x,_,h=>by rw [gh_] at h;cases h
 |n+1,ls,k,x,hw,h=>by
  rw [gf_] at h;split at h
  .rw [BB.mp h];exact⟨by simp,fun p hp=>nomatch hp⟩
  .obtain⟨i,hi,h⟩:=List.mem_flatMap.mp h;unfold jR_ at h;split at h
   .cases h
   .rename_i p hp;split at h
    .obtain⟨r,hr,rfl⟩:=Aa.mp h;obtain⟨a,d⟩:=gg_ (fun q hq=>hw q (Co hq)) hr;refine⟨by rw [Ag];lia,fun q hq=> ?_⟩;rcases AN.mp hq with rfl|hq
     .exact AX hp
     .exact Co (d q hq)
    .cases h
theorem qy_ {n:Nat}{ls:List Lf}{k:Int}{x:List Lf} (hk:k≠0) (h:x∈gh_ n ls k):x≠[]:=by
 cases n with
 |zero=>rw [gh_] at h;cases h
 |succ n=>
  rw [gf_,A7 hk] at h;obtain⟨i,hi,h⟩:=List.mem_flatMap.mp h;unfold jR_ at h;split at h
  .cases h
  .split at h
   .obtain⟨r,hr,rfl⟩:=Aa.mp h;exact List.cons_ne_nil _ _
   .cases h
theorem dM_ (i j:Int) (k n:Nat):g7_ i j k (n+1)=g7_ i j k n++(if 1<=b7_ (i,j,1+(n:Int))/\b7_ (i,j,1+(n:Int))<=(k:Int) then [(i,j,1+(n:Int))] else []):=by
 unfold g7_;rw [Bv,AL,Bs];congr 1
 by_cases h1:1<=b7_ (i,j,1+(n:Int))
 .by_cases h2:b7_ (i,j,1+(n:Int))<=(k:Int)
  .rw [A9 ⟨h1,h2⟩];simp [h1,h2]
  .rw [A7 fun z=>h2 z.2];simp [h2]
 .rw [A7 fun z=>h1 z.1];simp [h1]
theorem eL_ (i j:Int) (k n:Nat):(g7_ i j k n).length<=n:=by
 unfold g7_;exact Ai (Cg _ _) (by simp)
theorem eM_ (i k:Nat):∀m,(eN_ i k m).length<=m*(k+1)
 |0=>by simp [eN_]
 |m+1=>by
  unfold eN_;rw [bl_,AO,Nat.succ_mul];have a:=eM_ i k m;unfold eN_ at a;have b:=eL_ (i:Int) ((i:Int)+1+(m:Int)) k (k+1);lia
theorem g8_ (k:Nat):∀n,(cn_ k n).length<=n*((k+1)*(k+1))
 |0=>by simp [cn_]
 |n+1=>by
  unfold cn_;rw [bl_,AO,Nat.succ_mul];have a:=g8_ k n;unfold cn_ at a;have b:=eM_ n k (k+1-n);have c:(k+1-n)*(k+1)<=(k+1)*(k+1):=Nat.mul_le_mul_right _ (by lia);lia
def rD_ (_:W.Frag):Sp:=fun vs H Q _=>∃(n:Int) (k:Nat),vs=[.int n, .int k]/\(k:Int)<=n/\n<=26/\Q (.int (chF n k)) H
def s4_ (t:List Int) (p g a:Nat):Prop:=t.length<=5/\(∀i:Nat,0<=t.getD i 0)/\(∀i:Nat,p<=i->i<=p+g->t.getD i 0+(a:Int)<=26)/\(g=0\/a<=3)
def sH_ (n:Nat) (_:W.Frag):Sp:=fun vs H Q _=>∃(v:V) (t:List Int) (p g a:Nat),vs=[v, .int p, .int ((p:Int)+(g:Int)), .int a]/\Is H (tI t) v/\g<n/\n<=6/\p+g<t.length/\s4_ t p g a/\∀l H',ak_ H H'->H l=none->Is H' (.l ((pbF g t p a).map prD)) (.ref l)->Q (.ref l) H'
def rA_ (_:W.Frag):Sp:=fun vs H Q _=>∃(d:Nat) (v:V) (mk:List Lf),vs=[.int d,v]/\1<=d/\d<=4/\Is H (lfs mk) v/\MkW d mk/\∀H',ak_ H H'->Q (.int (hmF d mk)) H'
theorem mE_ {K:W.Frag}:n0_ 3 (nN_ K 3 (cT_ (bS_ 0) (cT_ (bS_ 1) (cT_ (bS_ 2) o2_)))):=by
 intro v σ H Q ⟨a,xs,e,hq,hl,x,r,ex,y,r2,er,z,r3,er3,en,q⟩;refine⟨a,xs,e,hq,hl,x,r,ex,y,r2,er,z,r3,er3,en,q, ?_,fun i hi=> ?_⟩
 .rw [Bw,Bw,Bw]
 .rw [BS (by lia),BS (by lia),BS (by lia)]
theorem mI_ {K:W.Frag}:∀(σ:L2.St) (H:Hp) (R R':L2.St->Hp->Prop) (x:V),(∀σ' H',R σ' H'->R' σ' H')->nN_ K 3 (cT_ (bS_ 0) (cT_ (bS_ 1) (cT_ (bS_ 2) o2_))) x σ H R->nN_ K 3 (cT_ (bS_ 0) (cT_ (bS_ 1) (cT_ (bS_ 2) o2_))) x σ H R':=
 fun σ H R R' v k ⟨a,xs,e,hq,hl,x,r,ex,y,r2,er,z,r3,er3,en,q⟩=>⟨a,xs,e,hq,hl,x,r,ex,y,r2,er,z,r3,er3,en,k _ _ q⟩
def upM (p:Lf):Lf:=(p.1+1,p.2.1+1,p.2.2)
def mkA (ps:List Lf) (pl:Int) (n:Nat):List Lf:=ps.map upM++(List.range n).flatMap fun i:Nat=>List.replicate (pl+(1+(i:Int))-1-ff_ ps (1+(i:Int))).toNat ((1+(i:Int),1+(i:Int)+1,1):Lf)
theorem ld_ (ps:List Lf) (pl:Int):mkA ps pl (cw_ ps).toNat=i0_ ps pl:=rfl
theorem iY_ (ps:List Lf) (pl:Int) (n:Nat):mkA ps pl (n+1)=mkA ps pl n++List.replicate (pl+(1+(n:Int))-1-ff_ ps (1+(n:Int))).toNat ((1+(n:Int),1+(n:Int)+1,1):Lf):=by
 unfold mkA;rw [bl_,BX]
def oi_ (_:W.Frag):Sp:=fun vs H Q _=>∃(dv:V) (ps:List Lf) (d:Nat),vs=[dv]/\Is H (lfs ps) dv/\(∀p∈ps,True/\1<=p.2.2/\p.2.2<=2^20)/\Q (.int (dQ_ ps)) H
def sI_ (c:Addr):Sp:=fun vs H Q E=>∃v lo hi,vs=[v, .int lo, .int hi]/\ix_ H v/\(Within lo hi v->Q .non H)/\(¬Within lo hi v->(0<=lo/\lo<=20/\0<=hi/\hi<=20)/\E (.ref c) none H)
structure Tp (ps:List Lf):Prop where
 l1:1<=cw_ ps
 l4:cw_ ps<=4
 len:ps.length<=3
 ok:∀p∈ps,0<=p.1/\p.1<p.2.1/\p.2.1<=4/\1<=p.2.2/\p.2.2<=4
 any:∃p∈ps,p.1=0
 load:∀i:Nat,i<4->0<=ff_ ps (1+(i:Int))
 w0:0<=dQ_ ps
 w1:dQ_ ps<2^40
 l6:hI_ ps<=6
 np:∀d:Nat,1<=d->d<=13->nP (d:Int) ps<=13
 mw:∀pl:Int,1<=pl->hI_ ps<=pl->pl<=14->MkW (cw_ ps).toNat (i0_ ps pl)
theorem ra_ {c:Nat}{ps:List Lf} (c1:1<=c) (c3:c<=3) (h:ps∈sT c):Tp ps:=by
 have a:tpB ps=true:=by
  have:c=1\/c=2\/c=3:=by lia
  rcases this with rfl|rfl|rfl
  .exact Ao.mp ((AE _ _).mp sd_).1 ps h
  .exact Ao.mp ((AE _ _).mp sc_).1 ps h
  .exact Ao.mp ((AE _ _).mp sb_).1 ps h
 unfold tpB at a;simp only [AE,Bi,Au,Ao,List.any_eq_true,BN] at a;obtain⟨⟨⟨⟨⟨⟨⟨⟨⟨⟨h1,h2⟩,h3⟩,h4⟩,h5⟩,h6⟩,h7⟩,h8⟩,h9⟩,h10⟩,h11⟩:=a;refine⟨h1,h2,h3,fun p hp=> ?_,h5,h6,h7,h8,h9,fun d d1 d5=> ?_,fun pl p1 pa p14=> ?_⟩
 .obtain⟨⟨⟨⟨a,b⟩,c⟩,d⟩,e⟩:=h4 p hp;exact⟨a,b,c,d,e⟩
 .have:=h10 (d-1) (by lia)
  rwa [show((d-1:Nat):Int)+1=(d:Int) by lia] at this
 .have:=h11 (pl-1).toNat (by lia);rw [show(((pl-1).toNat:Nat):Int)+1=pl by lia] at this;exact qu_ (by lia) (fun z=>df_) (this.resolve_left (by lia))
theorem p2_ {c:Nat} (c1:1<=c) (c3:c<=3):(sT c).length<=30:=by
 have:c=1\/c=2\/c=3:=by lia
 rcases this with rfl|rfl|rfl
 .exact Ae ((AE _ _).mp sd_).2
 .exact Ae ((AE _ _).mp sc_).2
 .exact Ae ((AE _ _).mp sb_).2
theorem Tp.okt {ps:List Lf} (h:Tp ps):OkT ps:=⟨by have:=h.len;lia,fun p hp=>by
 obtain⟨a,b,c,d,e⟩:=h.ok p hp;exact⟨a,b,by lia,d,e⟩,h.any⟩
theorem Tp.ne {ps:List Lf} (h:Tp ps):ps≠[]:=fun z=>by
 obtain⟨p,hp,_⟩:=h.any;rw [z] at hp;cases hp
theorem Tp.lea {ps:List Lf} (h:Tp ps):1<=hI_ ps:=by
 have l1:=h.l1;have a:=i6_ (ps:=ps) (n:=(cw_ ps).toNat) (i:=0) (by lia);have b:=mM_ h.okt;unfold hI_;have e:(1:Int)+((0:Nat):Int)=1:=by lia
 rw [e] at a;lia
theorem ip_ {d k:Nat} (d1:1<=d) (d5:d<=13) (k3:k<=3):(∀r∈kr_ (d:Int) k,rwB k r=true)/\(kr_ (d:Int) k).length<=450/\0<=fh_ d k/\fh_ d k<2^100/\(hC k<=d->ev (pC k) (d:Int)=fh_ d k*bC k)/\(d+1=hC k->ev (pC k) (d:Int)≠fh_ d k*bC k):=by
 have a:=ctf k3 d1 d5;unfold ctB at a;simp only [AE,Bi,Au,Ao] at a;obtain⟨⟨⟨⟨⟨a1,a2⟩,a3⟩,a4⟩,a5⟩,a6⟩:=a;exact⟨a1,a2,a3,a4,fun h=>a5.resolve_left (by lia),fun h=>a6.resolve_left (by lia)⟩
theorem lc_ {ps:List Lf}{pl:Int} (h:Tp ps) (h2:pl<=20):∀{n:Nat},n<=4->(mkA ps pl n).length<=3+30*n
 |0,_=>by
  have:=h.len;unfold mkA;simp;lia
 |n+1,hn=>by
  have ih:=lc_ h h2 (n:=n) (by lia);have l:=h.load n (by lia);rw [iY_,AO,Am];lia
def oj_ (_:W.Frag):Sp:=fun vs H Q _=>∃(v:V) (ps:List Lf) (pl:Int),vs=[v, .int pl]/\Is H (lfs ps) v/\Tp ps/\1<=pl/\pl<=14/\∀H',ak_ H H'->Q (.int (gE_ ps pl)) H'
def rx_ (_:W.Frag):Sp:=fun vs H Q _=>∃(v:V) (ps:List Lf) (d:Int),vs=[.int d,v]/\Is H (lfs ps) v/\Tp ps/\∀H',ak_ H H'->Q (.int (oQ_ d ps)) H'
def r4 (r:Rw):List Int:=[r.1,r.2.1,r.2.2.1,r.2.2.2]
def rD (r:Rw):D:=tI (r4 r)
def rr_ (_:W.Frag):Sp:=fun vs H Q _=>∃d k:Nat,vs=[.int d, .int k]/\1<=d/\d<=13/\k<=3/\∀l H',ak_ H H'->H l=none->Is H' (.l ((kr_ (d:Int) k).map rD)) (.ref l)->Q (.ref l) H'
structure Kn (S:List Rw) (D:Tab):Prop where
 nd:(D.map (·.1)).Nodup
 key:∀x∈D,∃(k:Nat) (f:Nat),x.1=[(k:Int),(f:Int)]/\k<=3/\f<=90/\x.2=cdF S 3 k (f:Int)
theorem Kn.size {S:List Rw}{D:Tab} (h:Kn S D):D.length<=400:=by
 have:=f7_ 400 (D.map fun x=>(x.1.getD 0 0).toNat*100+(x.1.getD 1 0).toNat) ?_ ?_
 .rwa [A2] at this
 .have nd:=h.nd;unfold List.Nodup at nd⊢;rw [Cb] at nd⊢;refine List.Pairwise.imp_of_mem (fun{a b} ha hb hne e=>hne ?_) nd;obtain⟨k,f,e1,a1,a2,_⟩:=h.key a ha;obtain⟨k',f',e2,b1,b2,_⟩:=h.key b hb;rw [e1,e2] at e⊢;have e:k*100+f=k'*100+f':=e;rw [show k=k' by lia,show f=f' by lia]
 .intro x hx;obtain⟨y,hy,rfl⟩:=Aa.mp hx;obtain⟨k,f,e1,a1,a2,_⟩:=h.key y hy;rw [e1];show k*100+f<400;lia
theorem Kn.nil {S:List Rw}:Kn S []:=⟨by simp,fun _ h=>nomatch h⟩
theorem Kn.put {S:List Rw}{D:Tab}{k f:Nat}{v:Int} (h:Kn S D) (k3:k<=3) (f9:f<=90) (hv:v=cdF S 3 k (f:Int)):Kn S (iJ_ D [(k:Int),(f:Int)] v):=by
 refine⟨nz_ h.nd _ _,fun x hx=> ?_⟩;unfold iJ_ at hx;split at hx
 .obtain⟨y,hy,rfl⟩:=Aa.mp hx;split
  .rename_i e;exact⟨k,f,e,k3,f9,hv⟩
  .exact h.key y hy
 .rcases Cs.mp hx with hx|hx
  .exact h.key x hx
  .rw [BB.mp hx];exact⟨k,f,rfl,k3,f9,hv⟩
theorem jw_ (S:List Rw) (hS:∀r∈S,1<=r.1):∀(n m k:Nat) (f:Int),k<=n->k<=m->cdF S n k f=cdF S m k f
 |n,m,0,_,_,_=>by cases n<;>cases m<;>rfl
 |0,_,_+1,_,h,_=>absurd h (by lia)
 |_,0,_+1,_,_,h=>absurd h (by lia)
 |n+1,m+1,k+1,f,h1,h2=>by
  unfold cdF;congr 1
  refine Bx fun r hr=> ?_;have:=hS r hr;rw [jw_ S hS n m (((k+1:Nat):Int)-r.1).toNat r.2.2.1 (by lia) (by lia)]
def KnD (H:Hp) (kd:Addr) (S:List Rw):Prop:=∃D:Tab,H kd=some (.dT (c5_ D))/\Kn S D
theorem n4_ (D:Tab) (k:List Int) (v:Int):(iJ_ D k v).find? (fun x=>decide (x.1=k))=some (k,v):=by
 unfold iJ_;by_cases h:(D.any fun x=>decide (x.1=k))=true
 .rw [A9 h];induction D with
  |nil=>simp at h
  |cons x D ih=>
   by_cases e:x.1=k
   .simp [e]
   .rw [AW,A7 e,Bh,AR e];exact ih (by simpa [e] using h)
 .rw [A7 h];have:D.find? (fun x=>decide (x.1=k))=none:=by
   rw [List.find?_eq_none];intro x hx z;exact h (List.any_eq_true.mpr ⟨x,hx,z⟩)
  rw [List.find?_append,this];simp
def rB_ (n:Nat) (_:W.Frag):Sp:=fun vs H Q _=>∃(k f:Nat) (v:V) (kd:Addr) (S:List Rw) (K:Nat),vs=[.int k, .int f,v, .ref kd]/\Is H (.l (S.map rD)) v/\KnD H kd S/\k<n/\n<=5/\k<=3/\f<=90/\K<=3/\(∀r∈S,rwB K r=true)/\S.length<=450/\∀H',But kd H H'->KnD H' kd S->Q (.int (cdF S 3 k (f:Int))) H'
def rC_ (_:W.Frag):Sp:=fun vs H Q _=>∃d k:Nat,vs=[.int d, .int k]/\1<=d/\d<=13/\k<=3/\∀H',ak_ H H'->Q (.int (fh_ d k)) H'
def rE_ (c:Addr):Sp:=fun vs H Q E=>∃d k:Nat,vs=[.int d, .int k]/\1<=d/\d<=12/\k<=3/\∀H',ak_ H H'->Q (.int (fh_ d k)) H'
def pT_ (_:W.Frag):Sp:=fun vs H Q _=>∃k:Nat,vs=[.int k]/\k<=3/\Q (.int ((2*k+1:Nat):Int)) H
def rs_ (c:Addr):Sp:=fun vs H Q E=>∃v,vs=[v]/\ix_ H v/\(∀k:Nat,v= .int k->k<=3->∀(t l:Addr) (H':Hp),ak_ H H'->H l=none->H' t=some (.tup [.ref l, .int (bC k)])->H' l=some (.lst ((pC k).map V.int))->Q (.ref t) H')/\(¬Within 0 3 v->E (.ref c) none H)
def pY_ (c:Addr):Sp:=fun vs H Q E=>∃v,vs=[v]/\ix_ H v/\(∀k:Nat,v= .int k->k<=3->∀H',ak_ H H'->Q (.int ((hC k:Nat):Int)) H')/\(¬Within 0 3 v->E (.ref c) none H)
theorem np_:∀a,a<21->∀b,b<21->(decide (((a:Nat):Int).natAbs.log2<1920)&&decide ((Str.empty++Str.ofString "not a whole number from ").length<=sizeLine)&&decide ((Str.empty++Str.ofString "not a whole number from "++Str.ofString (toString ((a:Nat):Int))).length<=sizeLine)&&decide ((Str.empty++Str.ofString "not a whole number from "++Str.ofString (toString ((a:Nat):Int))++Str.ofString " to ").length<=sizeLine)&&decide ((Str.empty++Str.ofString "not a whole number from "++Str.ofString (toString ((a:Nat):Int))++Str.ofString " to "++Str.ofString (toString ((b:Nat):Int))).length<=sizeLine))=true:=by ac_nf
theorem il_ {K:W.Frag}{H:Hp}{a b:Addr}{x y c:Int} (h:H a=some (.tup [.int x, .int y])) (k:H b=some (.tup [.int c, .int 1])):EqR K H 1 (.ref a) (.ref b) (decide (x=c)&&decide (y=1)):=by
 have e:=(if_ (xs:=[x,y]) h).eqr (K:=K) (n:=1) (by simp [tI,dep,lR_]) (by simp [tI,Kin,j9_]) (if_ (xs:=[c,1]) k);have:eqD (tI [x,y]) (tI [c,1])=(decide (x=c)&&decide (y=1)):=by simp [tI,eqD,im_]
 rwa [this] at e
theorem kv_:∀k,k<4->(pC k).length=2*k+1/\(∀x∈pC k,x.natAbs<=2000)/\bC k<=2/\1<=hC k/\hC k<=3/\hC k<=2*k+1:=by ac_nf
section
variable {P:Program}{w:World}{K:W.Frag}{mg:Str->Option Value}{base:Heap} (T:Fns K mg)
theorem cv_:FnOk P w K mg base CX0 1 T.f_without_last_noughts T.d_without_last_noughts ["numbers"] (rp_ K):=by
 refine T.F_without_last_noughts.ok bB_ (fun vs H Q E h=> ?_) (fun cdv A outer s H vs Q E hr h=> ?_)
 .obtain⟨_,_,rfl,_⟩:=h;rfl
 .obtain⟨a,ns,rfl,hS,hn,kk⟩:=h;refine⟨_,(af_ (as_ (i:=1) bB_.nd rfl (by trivial) (ez_ d2_ (by rfl) T.n_list boot_list (aa_ (pv 0) ad_)))
   (af_ (ea_ AS (gQ_ (fW_ (pv 1) (fun _=>rfl)) (ew_ (aA_ eE_ (aU_ cg_ (pv 1) (h4_ en_ ac_) (fun _ _=>rfl)) ac_ (aH_ _)))).pt (ag_ (bM_ (qi_ BR PySem.F.slot_list_pop PySem.F.type_list_pop qt_ (pv 1)))))
   (ag_ (ap_ (pv 1))))), ?_⟩
  refine⟨_,rfl,a,_,rfl, .inl hS,fun l hl=> ?_⟩;refine d5_ (fun σ H2=>∃(cs:List Int) (b:Nat),σ=[some (.ref a),some (.ref l)]/\ak_ H H2/\H2 l=some (.lst (cs.map V.int))/\ns=cs++List.replicate b 0)
   (fun _ H2=>match H2 l with|some (.lst xs)=>xs.length|_=>0) ⟨ns,0,rfl,ak_.new hl,ae_,by simp⟩ ?_ ?_
  .rintro σ H2 ⟨cs,b,rfl,s2,hl2,e⟩;rcases List.eq_nil_or_concat cs with rfl|⟨cs',z,hcs⟩
   .exact⟨_,rfl,false, .inl ⟨_,SqL.of hl2,rfl⟩,d0_ (d0_ ⟨_,rfl,kk l [] b H2 s2 hl hl2 e (.inl rfl)⟩)⟩
   .rw [List.concat_eq_append] at hcs;subst hcs;refine⟨_,rfl,true, .inl ⟨_,SqL.of hl2,by simp⟩,ie_ ?_⟩;refine⟨_,rfl,1,rfl,l,_,_, .int z,rfl,rfl,SqL.of hl2,by rw [AL];exact nf_ _ _,rfl,_,rfl, ?_⟩;refine lA_ (fun hz=> ?_) (fun hz=> ?_)
    .refine⟨_,rfl, .inl ⟨rfl,_,SqL.of hl2⟩,l,_, .int z,rfl,rfl,hl2,by simp, ?_⟩;refine⟨⟨cs',b+1,rfl,s2.put hl,by rw [ae_,AL];simp,in_ e hz⟩, ?_⟩;show(match upd H2 l _ l with|some (.lst xs)=>xs.length|_=>0)<(match H2 l with|some (.lst xs)=>xs.length|_=>0);rw [ae_,hl2];simp
    .exact⟨_,rfl,kk l _ b H2 s2 hl hl2 e (.inr (by simpa using hz))⟩
  .intro σ H Q1 Q2 k h;obtain⟨v,e1,b,t1,h⟩:=h;refine⟨v,e1,b,t1, ?_⟩;cases b with
   |false=>exact d0_ (k _ _ (by simpa using h))
   |true=>
    rw [A9 rfl] at h;obtain⟨v2,e2,i,e3,p,xs,j,y,e4,e5,e6,e7,e8,b2,e9,h⟩:=h;exact ie_ ⟨v2,e2,i,e3,p,xs,j,y,e4,e5,e6,e7,e8,b2,e9,k _ _ h⟩
theorem eH_:FnOk P w K mg base CX0 1 T.f__law_cell_at T.d__law_cell_at ["_law_script","_law_k"] (pZ_ K):=by
 refine T.F__law_cell_at.ok er_ (fun vs H Q E h=> ?_) (fun cdv A outer s H vs Q E hr h=> ?_)
 .obtain⟨_,_,_,rfl,_⟩:=h;rfl
 .obtain⟨a,ns,k,rfl,hS,h0,kk⟩:=h;refine⟨_,(af_ (b5_ (aA_ gU_ (pv 1) (aB_ bU_ (by rfl) T.n_len boot_len (aa_ (pv 0) ad_)) (aH_ _)) (ag_ (ap_ (aU_ cg_ (pv 0) (pv 1) (fun _ _=>rfl)))) aP_)
   (ag_ (ap_ ac_))), ?_⟩
  refine⟨_,rfl,_,rfl,a,_,rfl, .inl hS,_,_,rfl,rfl,_,rfl, ?_⟩;refine eS_ (fun h=> ?_) (fun _=>kk 0);rw [A2] at h;have hk:k.toNat<ns.length:=by lia
  have e:((k.toNat:Nat):Int)=k:=by lia
  exact⟨_,rfl,_,rfl,a,_,k,_,rfl,rfl,hS,by rw [<-e];exact nZ_ hk,kk _⟩
theorem ia_:FnOk P w K mg base CX0 1 T.f__law_bag T.d__law_bag ["_law_cell","_law_place"] (rF_ K):=by
 refine T.F__law_bag.ok c7_ (fun vs H Q E h=> ?_) (fun cdv A outer s H vs Q E hr h=> ?_)
 .obtain⟨_,_,rfl,_⟩:=h;rfl
 .obtain⟨c,pl,rfl,h0,h1,kk⟩:=h;refine⟨_,(af_ (as_ (i:=2) c7_.nd rfl (by trivial) (aB_ ej_ (by rfl) T.n_abs boot_abs (aa_ (pv 0) ad_)))
   (af_ (b5_ (aA_ gU_ (pv 2) (ai_ iR_ ac_ ac_) (aH_ _)) (ag_ (as_ (i:=2) c7_.nd rfl (by trivial) ac_)) aP_)
   (ag_ (ap_ (cY_ (aa_ (pv 2) (aa_ (ai_ eD_ (ai_ aE_ (ai_ aE_ (ai_ ck_ (ai_ eD_ (pv 0) ac_) ac_) (ai_ ck_ ac_ (pv 1))) ac_) ac_) ad_))))))), ?_⟩
  refine⟨_,rfl,c,rfl, ?_⟩;refine⟨_,rfl,10,18,rfl,rfl,⟨by decide,by decide,by decide⟩,_,_,rfl,rfl,_,rfl, ?_⟩;refine eS_ (fun _=> ?_) (fun _=> ?_)
  .refine⟨_,rfl,_,rfl,_,_,rfl,rfl,(show(0:Int)<2147483647 by decide),_,_,rfl,rfl, .inr ⟨by decide,by decide⟩,_,rfl,_,_,rfl,rfl, .inl ⟨by decide,by decide⟩,_,_,rfl,rfl,_,_,rfl,rfl,_,_,rfl,rfl,(show(0:Int)<2147483647 by decide), ?_⟩;exact⟨(by show 2<=sizeLine;decide),fun b nb=>kk b _ _ _ (ak_.new nb) nb ae_ (by lia) (CS _ (by decide))⟩
  .refine⟨_,rfl,_,rfl,_,_,rfl,rfl,(show(0:Int)<2147483647 by decide),_,_,rfl,rfl, .inr ⟨by decide,by decide⟩,_,rfl,_,_,rfl,rfl, .inl ⟨by decide,by decide⟩,_,_,rfl,rfl,_,_,rfl,rfl,_,_,rfl,rfl,(show(0:Int)<2147483647 by decide), ?_⟩;exact⟨(by show 2<=sizeLine;decide),fun b nb=>kk b _ _ _ (ak_.new nb) nb ae_ (by split<;>lia) (CS _ (by decide))⟩
theorem do_:FnOk P w K mg base CX0 1 T.f__law_mixed T.d__law_mixed ["_law_bag_here"] (ol_ K):=by
 refine T.F__law_mixed.ok fS_ (fun vs H Q E h=> ?_) (fun cdv A outer s H vs Q E hr h=> ?_)
 .obtain⟨_,_,_,rfl,_⟩:=h;rfl
 .obtain⟨b,far,st,rfl,hb,kk⟩:=h;refine⟨_,(af_ (nu_ (ai_ eD_ (ai_ aE_ (ai_ ck_ (aU_ cg_ (pv 0) ac_ (fun _ _=>rfl)) ac_) ac_) ac_) (nv_ (pv 0) ac_ d8_))
   (ag_ (ap_ (ai_ f2_ (ai_ eD_ (ai_ ck_ (aU_ cg_ (pv 0) ac_ (fun _ _=>rfl)) ac_) ac_) ac_)))), ?_⟩
  refine⟨_,rfl,b,_,_,_,rfl,rfl,SqL.of hb,by rfl,_,_,rfl,rfl, .inr ⟨by decide,by decide⟩,_,_,rfl,rfl,_,_,rfl,rfl,(show(0:Int)<2147483647 by decide),_,rfl,b,_,_,1,rfl,rfl,hb,by rfl, ?_⟩;refine⟨_,rfl,b,_,_,_,rfl,rfl,SqL.of ae_,by rfl,_,_,rfl,rfl, .inr ⟨by decide,by decide⟩,_,_,rfl,rfl,(show(0:Int)<2147483629 by decide),_,_,rfl,rfl,⟨by decide,by decide⟩, ?_⟩;refine kk _ _ ?_ (CS _ (by decide));lia
theorem bD_:FnOk P w K mg base CX0 2 T.f__law_digit T.d__law_digit ["_law_bag_here","_law_many"] (on_ K):=by
 refine T.F__law_digit.ok bC_ (fun vs H Q E h=> ?_) (fun cdv A outer s H vs Q E hr h=> ?_)
 .obtain⟨_,_,_,_,rfl,_⟩:=h;rfl
 .obtain⟨b,many,far,st,rfl,hb,hf,hst,hm,hm2,kk⟩:=h;refine⟨_,(af_ (b5_ (aA_ gV_ (aU_ cg_ (pv 0) ac_ (fun _ _=>rfl)) ac_ (aH_ _)) (af_ (as_ (i:=2) bC_.nd rfl (by trivial) (ai_ eD_ (aU_ cg_ (pv 0) ac_ (fun _ _=>rfl)) (pv 1)))
   (af_ (nu_ (ai_ dl_ (aU_ cg_ (pv 0) ac_ (fun _ _=>rfl)) (pv 1)) (nv_ (pv 0) ac_ d8_))
   (ag_ (ap_ (pv 2))))) aP_)
   (af_ (as_ (i:=2) bC_.nd rfl (by trivial) (ah_ (do_ T) (hr.mono (by decide)) (by rfl) T.m__law_mixed T.F__law_mixed.kp T.B__law_mixed .nil au_ (aa_ (pv 0) ad_)))
   (af_ (b5_ (aA_ gV_ (pv 1) ac_ (aH_ _)) (ag_ (bd_ AS rfl (dj_ (by rfl) T.n_range (aa_ ac_ ad_)) (al_ (i:=3) bC_.nd rfl (by trivial)) (ag_ (as_ (i:=2) bC_.nd rfl (by trivial) (ai_ aE_ (ai_ ck_ (pv 2) ac_) (ah_ (do_ T) (hr.mono (by decide)) (by rfl) T.m__law_mixed T.F__law_mixed.kp T.B__law_mixed .nil au_ (aa_ (pv 0) ad_))))))) aP_)
   (ag_ (ap_ (ai_ eD_ (pv 2) (pv 1))))))), ?_⟩
  refine⟨_,rfl,b,_,_,_,rfl,rfl,SqL.of hb,by rfl,_,_,rfl,rfl,_,rfl, ?_⟩;refine eS_ (fun h=> ?_) (fun h=> ?_)
  .refine⟨_,rfl,b,_,_,_,rfl,rfl,SqL.of hb,by rfl,_,rfl,_,_,rfl,rfl,hm, ?_⟩;refine⟨_,rfl,b,_,_,_,rfl,rfl,SqL.of hb,by rfl,_,rfl,_,_,rfl,rfl,q0_ hm hm2,_,rfl,b,_,_,0,rfl,rfl,hb,by rfl, ?_⟩;exact⟨_,rfl,kk _ _ _ (CS _ (by lia)) (Int.emod_lt_of_pos _ hm) (Int.fdiv_nonneg hf (by lia)) hst⟩
  .refine⟨_,rfl,b,far,st,rfl,hb,fun z st' hz hst'=> ?_⟩;refine⟨_,rfl,_,_,rfl,rfl,_,rfl, ?_⟩;refine eS_ (fun h=> ?_) (fun h=> ?_)
   .refine⟨7,rfl,by decide,by decide,bT_ (n:=7) (fun i σ H2=>∃(z:Int) (v:Option V) (st':Int),σ=[some (.ref b),some (.int many),some (.int z),v]/\0<=z/\0<=st'/\H2=upd H b (.lst [.int far, .int st'])) ⟨z,_,st',rfl,hz,hst',rfl⟩ ?_ ?_⟩
    .rintro i σ H2 hi ⟨z,v,st',rfl,hz,hst',rfl⟩;refine⟨_,rfl,_,_,rfl,rfl, .inr ⟨by decide,by decide⟩,_,rfl,b,far,st',rfl,ae_,fun z2 st2 hz2 hst2=>⟨_,_,rfl,rfl, ?_⟩⟩;exact⟨_,_,st2,rfl,by lia,hst2,n5_⟩
    .rintro σ H2 ⟨z,v,st',rfl,hz,hst',rfl⟩;exact⟨_,rfl,_,rfl,_,_,rfl,rfl,hm,kk _ _ _ (CS _ (by lia)) (Int.emod_lt_of_pos _ hm) hf hst'⟩
   .exact⟨_,rfl,_,rfl,_,_,rfl,rfl,hm,kk _ _ _ (CS _ (by lia)) (Int.emod_lt_of_pos _ hm) hf hst'⟩
theorem h9_:FnOk P w K mg base CX0 1 T.f_is_whole T.d_is_whole ["thing"] mm_:=by
 refine T.F_is_whole.ok h0_ (fun vs H Q E h=> ?_) (fun cdv A outer s H vs Q E hr h=> ?_)
 .obtain⟨_,rfl,_⟩:=h;rfl
 .obtain⟨v,rfl,ht,kk⟩:=h;refine⟨_,(ag_ (ap_ (iQ_ (aB_ ei_ (by rfl) T.n_isinstance CP (aa_ (pv 0) (aa_ (eA_ (v:= .ty "int") (by rfl) T.n_int boot_int (by rfl)) ad_))) (iN_ (qg_ (aB_ ei_ (by rfl) T.n_isinstance CP (aa_ (pv 0) (aa_ (eA_ (v:= .ty "bool") (by rfl) T.n_bool boot_bool (by rfl)) ad_)))))))), ?_⟩;rcases ht with⟨i,rfl⟩|⟨b,rfl⟩|rfl|⟨x,rfl⟩|⟨a,xs,rfl,ha⟩|⟨a,xs,rfl,ha⟩
  .exact⟨_,rfl,_,"int",_,true,rfl, .int i,ja_,true,rfl,ie_ ⟨_,rfl,_,"bool",_,false,rfl, .int i,dY_,false,rfl,kk⟩⟩
  .exact⟨_,rfl,_,"int",_,true,rfl, .bl b,hi_,true,rfl,ie_ ⟨_,rfl,_,"bool",_,true,rfl, .bl b,ja_,true,rfl,kk⟩⟩
  .exact⟨_,rfl,_,"int",_,false,rfl, .non,hg_,false,rfl,d0_ kk⟩
  .exact⟨_,rfl,_,"int",_,false,rfl, .str x,id_,false,rfl,d0_ kk⟩
  .exact⟨_,rfl,_,"int",_,false,rfl, .lst ha,hh_,false,rfl,d0_ kk⟩
  .exact⟨_,rfl,_,"int",_,false,rfl, .tup ha,go_,false,rfl,d0_ kk⟩
theorem eF_:FnOk P w K mg base CX0 1 T.f_sum_by_place T.d_sum_by_place ["one","other"] (nn_ fO_ (fun _ _=>True) K):=by
 refine T.F_sum_by_place.ok bh_ (fun vs H Q E h=> ?_) (fun cdv A outer s H vs Q E hr h=> ?_)
 .obtain⟨_,_,_,_,rfl,_⟩:=h;rfl
 .obtain⟨a,c,xs,ys,rfl,hA,hC,la,lc,_,kk⟩:=h;refine⟨_,(af_ (as_ (i:=2) bh_.nd rfl (by trivial) (ai_ k4_ (cY_ (aa_ ac_ ad_)) (aB_ (l0_ rfl) (by rfl) T.n_max boot_max (aa_ (aB_ bU_ (by rfl) T.n_len boot_len (aa_ (pv 0) ad_)) (aa_ (aB_ bU_ (by rfl) T.n_len boot_len (aa_ (pv 1) ad_)) ad_)))))
   (af_ (bd_ AS rfl (qc_ (cX_ (aa_ (pv 0) (aa_ (pv 1) ad_)))) (al_ (i:=3) bh_.nd rfl (by trivial)) (ag_ (bd_ AS rfl (f1_ (by rfl) T.n_enumerate (pv 3)) (dV_ rfl (aG_ (al_ (i:=4) bh_.nd rfl (by trivial)) (aG_ (al_ (i:=5) bh_.nd rfl (by trivial)) cu_))) (ag_ (kN_ (pv 2) (pv 4) jn_ (pv 5) jk_ d8_)))))
   (ag_ (ap_ (pv 2))))), ?_⟩
  refine⟨(by show 1<=sizeLine;decide),fun l0 n0=> ?_⟩;have s0:ak_ H (upd H l0 (.lst [.int 0])):=ak_.new n0;refine⟨_,rfl,a,_,rfl, .inl (s0.seq hA),_,rfl,c,_,rfl, .inl (s0.seq hC),_,_,rfl, ?_⟩;rw [A2,A2];have hm:(if(ys.length:Int)>(xs.length:Int) then(ys.length:Int) else(xs.length:Int))=((max xs.length ys.length:Nat):Int):=by split<;>lia
  rw [hm];have hmx:max xs.length ys.length<=900:=by lia
  refine⟨l0,_,_,rfl,rfl,ae_,by lia,by lia, ?_, ?_⟩
  .rw [AU,BM,Nat.one_mul];exact Az (ar_ (by lia))
  rw [AU,iH_];intro lt nt;have sT:ak_ H (upd (upd H l0 (.lst [.int 0])) lt (.lst ((List.replicate (max xs.length ys.length) (0:Int)).map V.int))):=s0.put (s0.free nt);have nlt:H lt=none:=s0.free nt;have hlt:(upd (upd H l0 (.lst [.int 0])) lt (.lst ((List.replicate (max xs.length ys.length) (0:Int)).map V.int))) lt=some (.lst ((List.replicate (max xs.length ys.length) (0:Int)).map V.int)):=ae_;generalize upd (upd H l0 (.lst [.int 0])) lt (.lst ((List.replicate (max xs.length ys.length) (0:Int)).map V.int))=H1 at sT hlt⊢;refine⟨_,rfl,_,rfl,(by show 2<=sizeLine;decide),fun tt ntt=> ?_⟩;have nttH:H tt=none:=sT.free ntt;have ntl:tt≠lt:=(ao_ hlt ntt).symm;refine⟨tt,rfl,⟨_,SqT.of ae_⟩,o4_ (xs:=[.ref a, .ref c]) (fun i σ H2=>∃v3 v4 v5:Option V,σ=[some (.ref a),some (.ref c),some (.ref lt),v3,v4,v5]/\ak_ H H2/\H2 tt=some (.tup [.ref a, .ref c])/\
   H2 lt=some (.lst ((if i=0 then List.replicate (max xs.length ys.length) (0:Int) else if i=1 then aL_ (List.replicate (max xs.length ys.length) 0) 0 xs else fO_ xs ys).map V.int)))
   ⟨none,none,none,rfl,sT.put nttH,ae_,by rw [aj_ ntl.symm];exact hlt⟩ (fun i σ H2 _ ⟨_,_,_,_,_,h,_⟩=>SqT.of h) ?_ ?_⟩
  .rintro i x σ H2 hi ⟨v3,v4,v5,rfl,s2,htt,hlt2⟩;obtain⟨z,zs,ts,rfl,hz,lz,e0,e1⟩:∃(z:Addr) (zs ts:List Int),x= .ref z/\SqL K H z (zs.map V.int)/\zs.length<=ts.length/\(if i=0 then List.replicate (max xs.length ys.length) (0:Int) else if i=1 then aL_ (List.replicate (max xs.length ys.length) 0) 0 xs else fO_ xs ys)=ts/\
     (if i+1=0 then List.replicate (max xs.length ys.length) (0:Int) else if i+1=1 then aL_ (List.replicate (max xs.length ys.length) 0) 0 xs else fO_ xs ys)=aL_ ts 0 zs:=by
    match i,hi with
    |0,hi=>
     cases hi;exact⟨a,xs,_,rfl,hA,by simp;lia,rfl,rfl⟩
    |1,hi=>
     cases hi;exact⟨c,ys,_,rfl,hC,by simp [aq_];lia,rfl,rfl⟩
   rw [e0] at hlt2;rw [e1];refine⟨_,rfl,z,rfl,⟨_,s2.seq hz⟩,eg_ (xs:=zs.map V.int) (fun j σ H3=>∃v4 v5:Option V,σ=[some (.ref a),some (.ref c),some (.ref lt),some (.ref z),v4,v5]/\ak_ H H3/\H3 tt=some (.tup [.ref a, .ref c])/\H3 lt=some (.lst ((aL_ ts 0 (zs.take j)).map V.int)))
    ⟨v4,v5,rfl,s2,htt,by rw [List.take_zero,e6_];exact hlt2⟩ (fun j σ H3 _ ⟨_,_,_,h,_⟩=>h.seq hz) ?_ ?_⟩
   .rintro j x σ H3 p hx ⟨v4,v5,rfl,s3,htt3,hlt3⟩ np;rw [A6] at hx;obtain⟨y,hy,rfl⟩:=A4.mp hx;have hj:j<zs.length:=(AC.mp hy).1;have nlp:lt≠p:=ao_ hlt3 np;have hlen:(aL_ ts 0 (zs.take j)).length=ts.length:=aq_ _ _ _;have hl4:upd H3 p (.tup [.int j, .int y]) lt=some (.lst ((aL_ ts 0 (zs.take j)).map V.int)):=by rw [aj_ nlp];exact hlt3
    refine⟨p,_,rfl,SqT.of ae_,rfl,_,_,rfl,_,_,rfl,rfl, ?_⟩;refine⟨_,rfl,_,rfl,lt,_,j,_, .int ((aL_ ts 0 (zs.take j)).getD j 0),rfl,rfl,rfl,SqL.of hl4, ?_,_,rfl,_,_,rfl,rfl,lt,_,_,j,rfl,rfl,hl4,lz_ (by rw [A2];lia), ?_⟩
    .exact nM_ (by lia)
    .refine⟨_,_,rfl,(s3.put (s3.free np)).put nlt, ?_, ?_⟩
     .rw [aj_ (mH_ htt3 hlt3 (by intro z;cases z)),aj_ (ao_ htt3 np)];exact htt3
     .rw [ae_];have e:=cS_ ts 0 (zs.take j) y (by rw [Af];lia);rw [Af,CQ (Az hj),Nat.zero_add] at e;have e3:zs.take (j+1)=zs.take j++[y]:=by rw [AM,hy];rfl
      rw [e3,<-e,List.map_set]
   .rintro σ H3 ⟨v4,v5,rfl,s3,htt3,hlt3⟩;rw [A2,AZ] at hlt3;exact⟨_,_,_,rfl,s3,htt3,hlt3⟩
  .rintro σ H2 ⟨v3,v4,v5,rfl,s2,htt,hlt2⟩;exact⟨_,rfl,kk lt H2 s2 nlt hlt2⟩
theorem c8_:FnOk P w K mg base CX0 1 T.f_product_by_place T.d_product_by_place ["one","other"] (nn_ (fun xs ys=>cv xs ys xs.length) (fun xs ys=>xs.length+ys.length<=900/\Bn 2000 xs/\Bn 2000 ys) K):=by
 refine T.F_product_by_place.ok aF_ (fun vs H Q E h=> ?_) (fun cdv A outer s H vs Q E hr h=> ?_)
 .obtain⟨_,_,_,_,rfl,_⟩:=h;rfl
 .obtain⟨a,c,xs,ys,rfl,hA,hC,la,lc,⟨hsz,hB,hB2⟩,kk⟩:=h;refine⟨_,(af_ (as_ (i:=2) aF_.nd rfl (by trivial) (ai_ k4_ (cY_ (aa_ ac_ ad_)) (ai_ aE_ (aB_ bU_ (by rfl) T.n_len boot_len (aa_ (pv 0) ad_)) (aB_ bU_ (by rfl) T.n_len boot_len (aa_ (pv 1) ad_)))))
   (af_ (bd_ AS rfl (f1_ (by rfl) T.n_enumerate (pv 0)) (dV_ rfl (aG_ (al_ (i:=3) aF_.nd rfl (by trivial)) (aG_ (al_ (i:=4) aF_.nd rfl (by trivial)) cu_))) (ag_ (bd_ AS rfl (f1_ (by rfl) T.n_enumerate (pv 1)) (dV_ rfl (aG_ (al_ (i:=5) aF_.nd rfl (by trivial)) (aG_ (al_ (i:=6) aF_.nd rfl (by trivial)) cu_))) (ag_ (kN_ (pv 2) (ai_ aE_ (pv 3) (pv 5)) jn_ (ai_ (bs_ pC_) (pv 4) (pv 6)) jk_ d8_)))))
   (ag_ (ap_ (pv 2))))), ?_⟩
  refine⟨(by show 1<=sizeLine;decide),fun l0 n0=> ?_⟩;have s0:ak_ H (upd H l0 (.lst [.int 0])):=ak_.new n0;refine⟨_,rfl,a,_,rfl, .inl (s0.seq hA),_,rfl,c,_,rfl, .inl (s0.seq hC),_,_,rfl,rfl, ?_⟩;dsimp only;rw [A2,A2,show(xs.length:Int)+(ys.length:Int)=((xs.length+ys.length:Nat):Int) by lia];refine⟨l0,_,_,rfl,rfl,ae_,by lia,by lia, ?_, ?_⟩
  .rw [AU,BM,Nat.one_mul];exact Az (ar_ (by lia))
  rw [AU,iH_];intro lt nt;have sT:ak_ H (upd (upd H l0 (.lst [.int 0])) lt (.lst ((List.replicate (xs.length+ys.length) (0:Int)).map V.int))):=s0.put (s0.free nt);have nlt:H lt=none:=s0.free nt;have hlt:(upd (upd H l0 (.lst [.int 0])) lt (.lst ((List.replicate (xs.length+ys.length) (0:Int)).map V.int))) lt=some (.lst ((cv xs ys 0).map V.int)):=ae_;generalize upd (upd H l0 (.lst [.int 0])) lt (.lst ((List.replicate (xs.length+ys.length) (0:Int)).map V.int))=H1 at sT hlt⊢;refine⟨_,rfl,a,rfl,⟨_,sT.seq hA⟩,eg_ (xs:=xs.map V.int) (fun i σ H2=>∃v3 v4 v5 v6:Option V,σ=[some (.ref a),some (.ref c),some (.ref lt),v3,v4,v5,v6]/\ak_ H H2/\H2 lt=some (.lst ((cv xs ys i).map V.int)))
   ⟨none,none,none,none,rfl,sT,hlt⟩ (fun i σ H2 _ ⟨_,_,_,_,_,h,_⟩=>h.seq hA) ?_ ?_⟩
  .rintro i x σ H2 p hx ⟨v3,v4,v5,v6,rfl,s2,hlt2⟩ np;rw [A6] at hx;obtain⟨x,hx',rfl⟩:=A4.mp hx;have hi:i<xs.length:=(AC.mp hx').1;have ex:xs.getD i 0=x:=by rw [List.getD,hx'];rfl
   have bx:=hB x (AX hx');refine⟨p,_,rfl,SqT.of ae_,rfl,_,_,rfl,_,_,rfl,rfl, ?_⟩;have s3:ak_ H (upd H2 p (.tup [.int i, .int x])):=s2.put (s2.free np);have hlt3:upd H2 p (.tup [.int i, .int x]) lt=some (.lst ((cv xs ys i).map V.int)):=by rw [aj_ (ao_ hlt2 np)];exact hlt2
   generalize upd H2 p (.tup [.int i, .int x])=H3 at s3 hlt3⊢;have ln:=cK_ xs ys i;refine⟨_,rfl,c,rfl,⟨_,s3.seq hC⟩,eg_ (xs:=ys.map V.int) (fun j σ H4=>∃v5 v6:Option V,σ=[some (.ref a),some (.ref c),some (.ref lt),some (.int i),some (.int x),v5,v6]/\ak_ H H4/\H4 lt=some (.lst ((aL_ (cv xs ys i) i ((ys.take j).map (x* ·))).map V.int)))
    ⟨v5,v6,rfl,s3,by rw [List.take_zero,List.map_nil,e6_];exact hlt3⟩ (fun j σ H4 _ ⟨_,_,_,h,_⟩=>h.seq hC) ?_ ?_⟩
   .rintro j y σ H4 p2 hy ⟨v5,v6,rfl,s4,hlt4⟩ np2;rw [A6] at hy;obtain⟨y,hy',rfl⟩:=A4.mp hy;have hj:j<ys.length:=(AC.mp hy').1;have hlen:(aL_ (cv xs ys i) i ((ys.take j).map (x* ·))).length=xs.length+ys.length:=by rw [aq_,ln]
    have hl5:upd H4 p2 (.tup [.int j, .int y]) lt=some (.lst ((aL_ (cv xs ys i) i ((ys.take j).map (x* ·))).map V.int)):=by rw [aj_ (ao_ hlt4 np2)];exact hlt4
    refine⟨p2,_,rfl,SqT.of ae_,rfl,_,_,rfl,_,_,rfl,rfl, ?_⟩;refine⟨_,rfl,_,rfl,_,rfl,_,_,rfl,rfl,lt,_,i+j,_, .int ((aL_ (cv xs ys i) i ((ys.take j).map (x* ·))).getD (i+j) 0),rfl,rfl,by lia,SqL.of hl5, ?_,_,rfl,_,rfl,_,_,rfl,rfl,⟨cA_ bx (by decide),cA_ (hB2 y (AX hy')) (by decide)⟩,_,_,rfl,rfl,lt,_,_,i+j,rfl,rfl,hl5, ?_, ?_⟩
    .exact nM_ (by lia)
    .rw [show(i:Int)+(j:Int)=((i+j:Nat):Int) by lia];exact lz_ (by rw [A2];lia)
    .refine⟨_,_,rfl,(s4.put (s4.free np2)).put nlt, ?_⟩;rw [ae_];have e:=cS_ (cv xs ys i) i ((ys.take j).map (x* ·)) (x*y) (by rw [A2,Af];lia);rw [A2,Af,CQ (Az hj)] at e;have e3:ys.take (j+1)=ys.take j++[y]:=by rw [AM,hy'];rfl
     rw [e3,AL,List.map_singleton,<-e,List.map_set]
   .rintro σ H4 ⟨v5,v6,rfl,s4,hlt4⟩;rw [A2,AZ] at hlt4;refine⟨_,_,_,_,rfl,s4, ?_⟩;rw [cv,ex];exact hlt4
  .rintro σ H2 ⟨v3,v4,v5,v6,rfl,s2,hlt2⟩;rw [A2] at hlt2;exact⟨_,rfl,kk lt H2 s2 nlt hlt2⟩
theorem r6_ (a:Int):(if a<0 then -a else a)=((a.natAbs:Nat):Int):=by split<;>lia
theorem dJ_:FnOk P w K mg base CX0 1 T.f_common_divisor T.d_common_divisor ["one","other"] (mn_ K):=by
 refine T.F_common_divisor.ok aJ_ (fun vs H Q E h=> ?_) (fun cdv A outer s H vs Q E hr h=> ?_)
 .obtain⟨_,_,rfl,_⟩:=h;rfl
 .obtain⟨a,b,rfl,kk⟩:=h;refine⟨_,(af_ (as_ (i:=2) aJ_.nd rfl (by trivial) (aB_ ej_ (by rfl) T.n_abs boot_abs (aa_ (pv 0) ad_)))
   (af_ (as_ (i:=3) aJ_.nd rfl (by trivial) (aB_ ej_ (by rfl) T.n_abs boot_abs (aa_ (pv 1) ad_)))
   (af_ (ea_ AS (aA_ rN_ (pv 3) ac_ (aH_ _)) (af_ (as_ (i:=4) aJ_.nd rfl (by trivial) (ai_ eD_ (pv 2) (pv 3)))
   (af_ (as_ (i:=2) aJ_.nd rfl (by trivial) (pv 3))
   (ag_ (as_ (i:=3) aJ_.nd rfl (by trivial) (pv 4))))))
   (ag_ (ap_ (pv 2)))))), ?_⟩
  refine⟨_,rfl,a,rfl,_,rfl,b,rfl, ?_⟩;rw [r6_,r6_];refine d5_ (fun σ H2=>∃(x y:Nat) (v:Option V),σ=[some (.int a),some (.int b),some (.int x),some (.int y),v]/\H2=H/\Nat.gcd x y=Nat.gcd a.natAbs b.natAbs)
   (fun(σ:L2.St) _=>match σ[3]? with|some (some (V.int j))=>j.toNat|_=>0) ⟨a.natAbs,b.natAbs,none,rfl,rfl,rfl⟩ ?_ ?_
  .rintro σ H2 ⟨x,y,v,rfl,rfl,hg⟩;refine⟨_,rfl,rfl,_,rfl, ?_⟩;refine rV_ (fun hz=> ?_) (fun hz=> ?_)
   .have hy:0<y:=by lia
    refine⟨_,rfl,_,rfl,_,_,rfl,rfl,by lia,_,rfl,_,rfl, ?_⟩;refine⟨⟨y,x%y,_,rfl,rfl,(mW_ x y).trans hg⟩, ?_⟩;show((x%y:Nat):Int).toNat<(y:Int).toNat;have:=Cj x hy;lia
   .refine⟨_,rfl, ?_⟩;have:y=0:=by lia
    subst this;rw [Nat.gcd_zero_right] at hg;rw [hg];exact kk
  .intro σ H Q1 Q2 k h;obtain⟨v1,e1,e2,b1,e3,h⟩:=h;exact⟨v1,e1,e2,b1,e3,k _ _ h⟩
theorem eG_:FnOk P w K mg base CX0 2 T.f_lowering T.d_lowering ["tops","bottom"] (rt_ K):=by
 refine T.F_lowering.ok cq_ (fun vs H Q E h=> ?_) (fun cdv A outer s H vs Q E hr h=> ?_)
 .obtain⟨_,_,_,rfl,_⟩:=h;rfl
 .obtain⟨a,ts,b,rfl,hS,hb,kk⟩:=h;refine⟨_,(af_ (as_ (i:=2) cq_.nd rfl (by trivial) (aB_ ej_ (by rfl) T.n_abs boot_abs (aa_ (pv 1) ad_)))
   (af_ (bd_ AS rfl (a9_ (pv 0)) (al_ (i:=3) cq_.nd rfl (by trivial)) (ag_ (as_ (i:=2) cq_.nd rfl (by trivial) (ah_ (dJ_ T) (hr.mono (by decide)) (by rfl) T.m_common_divisor T.F_common_divisor.kp T.B_common_divisor .nil au_ (aa_ (pv 2) (aa_ (pv 3) ad_))))))
   (ag_ (ap_ (iO_ (aA_ gV_ (pv 1) ac_ (aH_ _)) (pv 2) (h4_ en_ (pv 2))))))), ?_⟩
  refine⟨_,rfl,b,rfl, ?_⟩;rw [r6_];refine⟨_,rfl,a,rfl,⟨_,hS⟩,b0_ (xs:=ts.map V.int) (fun i σ H2=>(∃v:Option V,σ=[some (.ref a),some (.int b),some (.int (dc_ b.natAbs (ts.take i):Nat)),v])/\H2=H) ⟨⟨none,rfl⟩,rfl⟩ (fun i σ H2 _ h=>by rw [h.2];exact hS) ?_ ?_⟩
  .rintro i x σ H2 hi ⟨⟨v,rfl⟩,rfl⟩;rw [A6] at hi;obtain⟨t,ht,rfl⟩:=A4.mp hi;refine⟨_,rfl,_,rfl,_,t,rfl,⟨some (.int t), ?_⟩,rfl⟩;have e3:ts.take (i+1)=ts.take i++[t]:=by rw [AM,ht];rfl
   rw [e3,lK_];rfl
  .rintro σ H2 ⟨⟨v,rfl⟩,rfl⟩;rw [A2,AZ];refine⟨_,rfl,_,_,rfl,rfl,_,rfl, ?_⟩;exact eS_ (fun _=>⟨_,rfl,kk⟩) (fun z=>absurd hb z)
theorem dI_:FnOk P w K mg base CX0 3 T.f_poly T.d_poly ["tops","bottom"] (pU_ K):=by
 refine T.F_poly.ok hY_ (fun vs H Q E h=> ?_) (fun cdv A outer s H vs Q E hr h=> ?_)
 .obtain⟨_,_,_,rfl,_⟩:=h;rfl
 .obtain⟨a,ns,b,rfl,hS,hn,hb,hb2,kk⟩:=h;refine⟨_,(af_ (b5_ (aA_ eE_ (pv 1) ac_ (aH_ _)) (ag_ mx_) aP_)
   (af_ (as_ (i:=2) hY_.nd rfl (by trivial) (ah_ (cv_ T) (hr.mono (by decide)) (by rfl) T.m_without_last_noughts T.F_without_last_noughts.kp T.B_without_last_noughts .nil au_ (aa_ (pv 0) ad_)))
   (af_ (as_ (i:=3) hY_.nd rfl (by trivial) (ah_ (eG_ T) (hr.mono (by decide)) (by rfl) T.m_lowering T.F_lowering.kp T.B_lowering .nil au_ (aa_ (pv 2) (aa_ (pv 1) ad_))))
   (ag_ (ap_ (cX_ (aa_ (cb_ (XN:=["tops","bottom","kept","divisor"]) (sc:=ab_ es_) (N:=["top","divisor"]) (own:=1) (js:=[3]) rfl (by ac_nf) rfl rfl (a9_ (pv 2)) (fun _ _ _ _=>(al_ (i:=0) (show List.Nodup (["top","divisor"]:List Str) by ac_nf) rfl (Or.inl rfl) (.inr rfl))) (a1_ (by decide)) (fun _ _ _ _=>bO_) (fun _ _ _ _=>(ai_ dl_ (pv 0) (pv 1)))) (aa_ (ai_ dl_ (pv 1) (pv 3)) ad_)))))))), ?_⟩
  refine⟨_,rfl,rfl,_,rfl,lA_ (fun z=>absurd z (by lia)) (fun _=> ?_)⟩;refine⟨_,rfl,a,ns,rfl,hS,by lia,fun l ks bb H2 s2 nl hl2 e hk=> ?_⟩;refine⟨_,rfl,_,rfl,l,ks,b,rfl,SqL.of hl2,hb, ?_⟩;have hp:0<b.natAbs:=by lia
  have g1:=ef_ hp ks;have g2:=ih_ hp ks;have hkl:ks.length<=ns.length:=by rw [e,AO];lia
  have fin:∀zs bt,zs=ks.map (fun t=>t.fdiv (dc_ b.natAbs ks:Int))->bt=b.fdiv (dc_ b.natAbs ks:Int)->Lo ns b zs bt:=fun zs bt e1 e2=>⟨ks,⟨⟨bb,e⟩,hk⟩,e1,e2⟩;generalize dc_ b.natAbs ks=g at g1 g2 fin⊢;refine⟨_,rfl,l,rfl,⟨_,SqL.of hl2⟩,fun acc na=> ?_⟩;refine bH_ (xs:=ks.map V.int) (own:=1) (js:=[3]) (fun i H3=>ak_ H2 H3/\H3 acc=some (.lst (((ks.take i).map (fun t=>t.fdiv (g:Int))).map V.int))) ⟨ak_.new na,ae_⟩ (fun i H3 _ h=>h.1.seq (SqL.of hl2)) ?_ ?_ a2_ bP_ ?_
  .rintro i x H3 hi ⟨s3,hacc⟩;rw [A6] at hi;obtain⟨t,ht,rfl⟩:=A4.mp hi;have hlt:i<ks.length:=(AC.mp ht).1;refine nh_ ?_;refine⟨_,rfl,_,rfl,_,_,rfl,rfl,m2_ hb hb2 g1 g2,acc,_,_,rfl,rfl,hacc,ar_ (by simp;lia),s3.put na, ?_⟩;rw [ae_,AM,ht];simp
  .rintro H3 ⟨s3,hacc⟩;rw [A2,AZ] at hacc;refine⟨_,rfl,_,rfl,_,_,rfl,rfl,m2_ hb hb2 g1 g2,(by show 2<=sizeLine;decide),fun t nt=> ?_⟩;have s4:=s2.trans s3;exact kk t acc _ _ _ (s4.put (s4.free nt)) (s2.free na) ae_ (by rw [aj_ (ao_ hacc nt)];exact hacc) (fin _ _ rfl rfl)
  .rintro σ H R R' k ⟨v1,e1,v2,e2,i1,j1,e3,e4,c1,h⟩;exact⟨v1,e1,v2,e2,i1,j1,e3,e4,c1,k _ _ h⟩
theorem oD_:FnOk P w K mg base CX0 4 T.f_plus T.d_plus ["one","other"] (nm_ r1_ K):=by
 refine T.F_plus.ok hZ_ (fun vs H Q E h=> ?_) (fun cdv A outer s H vs Q E hr h=> ?_)
 .obtain⟨_,_,_,_,_,_,_,_,rfl,_⟩:=h;rfl
 .obtain⟨t,u,p,q,z1,z2,b1,b2,rfl,ht,hp,hu,hq,g1,g2,gb,kk⟩:=h;refine⟨_,(af_ (cP_ (i:=2) hZ_.nd rfl (by trivial) (.inl rfl) (XN:=["one","other","widened","other_widened"]) (sc:=ab_ dS_) (N:=["top","other"]) (own:=1) (js:=[1]) rfl (by ac_nf) rfl rfl (a9_ (aU_ cp_ (pv 0) ac_ (fun _ _=>rfl))) (fun _ _ _ _=>(al_ (i:=0) (show List.Nodup (["top","other"]:List Str) by ac_nf) rfl (Or.inl rfl) (.inr rfl))) (a1_ (by decide)) (fun _ _ _ _=>bO_) (fun _ _ _ _=>(ai_ (bs_ pC_) (pv 0) (aU_ (lx_ (K:=K) rfl) (pv 1) ac_ (fun _ _=>rfl)))))
   (af_ (cP_ (i:=3) hZ_.nd rfl (by trivial) (.inl rfl) (XN:=["one","other","widened","other_widened"]) (sc:=ab_ dS_) (N:=["top","one"]) (own:=1) (js:=[0]) rfl (by ac_nf) rfl rfl (a9_ (aU_ cp_ (pv 1) ac_ (fun _ _=>rfl))) (fun _ _ _ _=>(al_ (i:=0) (show List.Nodup (["top","one"]:List Str) by ac_nf) rfl (Or.inl rfl) (.inr rfl))) (a1_ (by decide)) (fun _ _ _ _=>bO_) (fun _ _ _ _=>(ai_ (bs_ pC_) (pv 0) (aU_ (lx_ (K:=K) rfl) (pv 1) ac_ (fun _ _=>rfl)))))
   (ag_ (ap_ (ah_ (dI_ T) (hr.mono (by decide)) (by rfl) T.m_poly T.F_poly.kp T.B_poly .nil au_ (aa_ (ah_ (eF_ T) (hr.mono (by decide)) (by rfl) T.m_sum_by_place T.F_sum_by_place.kp T.B_sum_by_place .nil au_ (aa_ (pv 2) (aa_ (pv 3) ad_))) (aa_ (ai_ (bs_ pC_) (aU_ cp_ (pv 0) ac_ (fun _ _=>rfl)) (aU_ cp_ (pv 1) ac_ (fun _ _=>rfl))) ad_))))))), ?_⟩
  have n1:=g1.len;have n2:=g2.len;have a1:=g1.pos;have c1:=g2.pos;refine⟨_,rfl,t,_,_, .ref p,rfl,rfl,SqT.of ht,by rfl,p,rfl,⟨_,SqL.of hp⟩,fun acc na=> ?_⟩;refine bH_ (xs:=z1.map V.int) (own:=1) (js:=[1]) (fun i H2=>ak_ H H2/\H2 acc=some (.lst (((z1.take i).map (· *b2)).map V.int))) ⟨ak_.new na,ae_⟩ (fun i H2 _ h=>h.1.seq (SqL.of hp)) ?_ ?_ a2_ bP_ ?_
  .rintro i x H2 hi ⟨s2,hacc⟩;rw [A6] at hi;obtain⟨z,hz,rfl⟩:=A4.mp hi;have hlt:i<z1.length:=(AC.mp hz).1;refine nh_ ?_;refine⟨_,rfl,_,rfl,u,_,_, .int b2,rfl,rfl,SqT.of (s2 _ _ hu),by rfl,_,_,rfl,rfl,⟨cA_ (g1.bd z (AX hz)) (by decide),cA_ g2.top (by decide)⟩,acc,_,_,rfl,rfl,hacc,ar_ (by simp;lia),s2.put na, ?_⟩;rw [ae_,AM,hz];simp
  .rintro H2 ⟨s2,hacc⟩;rw [A2,AZ] at hacc;refine⟨_,rfl,u,_,_, .ref q,rfl,rfl,SqT.of (s2 _ _ hu),by rfl,q,rfl,⟨_,SqL.of (s2 _ _ hq)⟩,fun acc2 na2=> ?_⟩;refine bH_ (xs:=z2.map V.int) (own:=1) (js:=[0]) (fun i H3=>ak_ H2 H3/\H3 acc2=some (.lst (((z2.take i).map (· *b1)).map V.int))) ⟨ak_.new na2,ae_⟩ (fun i H3 _ h=>h.1.seq (SqL.of (s2 _ _ hq))) ?_ ?_ a2_ bP_ ?_
   .rintro i x H3 hi ⟨s3,hacc2⟩;rw [A6] at hi;obtain⟨z,hz,rfl⟩:=A4.mp hi;have hlt:i<z2.length:=(AC.mp hz).1;refine nh_ ?_;refine⟨_,rfl,_,rfl,t,_,_, .int b1,rfl,rfl,SqT.of (s3 _ _ (s2 _ _ ht)),by rfl,_,_,rfl,rfl,⟨cA_ (g2.bd z (AX hz)) (by decide),cA_ g1.top (by decide)⟩,acc2,_,_,rfl,rfl,hacc2,ar_ (by simp;lia),s3.put na2, ?_⟩;rw [ae_,AM,hz];simp
   .rintro H3 ⟨s3,hacc2⟩;rw [A2,AZ] at hacc2;have sA:=s2.trans s3;refine⟨_,rfl,_,rfl,acc,acc2,z1.map (· *b2),z2.map (· *b1),rfl,SqL.of (s3 _ _ hacc),SqL.of hacc2,by rw [A2];lia,by rw [A2];lia,trivial,fun l H4 s4 nl hl=> ?_⟩;have sB:=sA.trans s4;refine⟨_,rfl,t,_,_, .int b1,rfl,rfl,SqT.of (sB _ _ ht),by rfl,_,rfl,u,_,_, .int b2,rfl,rfl,SqT.of (sB _ _ hu),by rfl,_,_,rfl,rfl,⟨cA_ g1.top (by decide),cA_ g2.top (by decide)⟩, ?_⟩;refine⟨l,_,b1*b2,rfl,SqL.of hl,by simp [fO_,aq_];lia,Int.mul_pos (by lia) (by lia),gb,fun t' l' zs bt H' s' nl' ht' hl' lo=> ?_⟩;exact kk t' l' zs bt H' (sB.trans s') (sB.free nl') ht' hl' lo
   .rintro σ H R R' k ⟨v1,e1,v2,e2,x1,x2,x3,x4,e3,e4,e5,e6,i1,j1,e7,e8,c1,h⟩;exact⟨v1,e1,v2,e2,x1,x2,x3,x4,e3,e4,e5,e6,i1,j1,e7,e8,c1,k _ _ h⟩
  .rintro σ H R R' k ⟨v1,e1,v2,e2,x1,x2,x3,x4,e3,e4,e5,e6,i1,j1,e7,e8,c1,h⟩;exact⟨v1,e1,v2,e2,x1,x2,x3,x4,e3,e4,e5,e6,i1,j1,e7,e8,c1,k _ _ h⟩
theorem iT_:FnOk P w K mg base CX0 4 T.f_times T.d_times ["one","other"] (nm_ qL_ K):=by
 refine T.F_times.ok mq_ (fun vs H Q E h=> ?_) (fun cdv A outer s H vs Q E hr h=> ?_)
 .obtain⟨_,_,_,_,_,_,_,_,rfl,_⟩:=h;rfl
 .obtain⟨t,u,p,q,z1,z2,b1,b2,rfl,ht,hp,hu,hq,g1,g2,gb,kk⟩:=h;refine⟨_,(ag_ (ap_ (ah_ (dI_ T) (hr.mono (by decide)) (by rfl) T.m_poly T.F_poly.kp T.B_poly .nil au_ (aa_ (ah_ (c8_ T) (hr.mono (by decide)) (by rfl) T.m_product_by_place T.F_product_by_place.kp T.B_product_by_place .nil au_ (aa_ (aU_ cp_ (pv 0) ac_ (fun _ _=>rfl)) (aa_ (aU_ cp_ (pv 1) ac_ (fun _ _=>rfl)) ad_))) (aa_ (ai_ (bs_ pC_) (aU_ cp_ (pv 0) ac_ (fun _ _=>rfl)) (aU_ cp_ (pv 1) ac_ (fun _ _=>rfl))) ad_))))), ?_⟩;have n1:=g1.len;have n2:=g2.len;have a1:=g1.pos;have c1:=g2.pos;refine⟨_,rfl,t,_,_, .ref p,rfl,rfl,SqT.of ht,by rfl,_,rfl,u,_,_, .ref q,rfl,rfl,SqT.of hu,by rfl, ?_⟩;refine⟨p,q,z1,z2,rfl,SqL.of hp,SqL.of hq,by lia,by lia,⟨by lia,g1.bd,g2.bd⟩,fun l H1 s1 nl hl=> ?_⟩;refine⟨_,rfl,t,_,_, .int b1,rfl,rfl,SqT.of (s1 _ _ ht),by rfl,_,rfl,u,_,_, .int b2,rfl,rfl,SqT.of (s1 _ _ hu),by rfl,_,_,rfl,rfl,⟨cA_ g1.top (by decide),cA_ g2.top (by decide)⟩, ?_⟩;refine⟨l,_,b1*b2,rfl,SqL.of hl,by rw [cK_];lia,Int.mul_pos (by lia) (by lia),gb,fun t' l' zs bt H' s' nl' ht' hl' lo=> ?_⟩;exact kk t' l' zs bt H' (s1.trans s') (s1.free nl') ht' hl' lo
theorem jO_:FnOk P w K mg base CX0 5 T.f_through T.d_through ["start","values"] (ks_ K):=by
 refine T.F_through.ok bn_ (fun vs H Q E h=> ?_) (fun cdv A outer s H vs Q E hr h=> ?_)
 .obtain⟨_,_,_,rfl,_⟩:=h;rfl
 .obtain⟨st,a,ws,rfl,hS,hn,hv,hs,kk⟩:=h;refine⟨_,(af_ (as_ (i:=2) bn_.nd rfl (by trivial) (ah_ (dI_ T) (hr.mono (by decide)) (by rfl) T.m_poly T.F_poly.kp T.B_poly .nil au_ (aa_ (cY_ ad_) (aa_ ac_ ad_))))
   (af_ (as_ (i:=3) bn_.nd rfl (by trivial) (ah_ (dI_ T) (hr.mono (by decide)) (by rfl) T.m_poly T.F_poly.kp T.B_poly .nil au_ (aa_ (cY_ (aa_ ac_ ad_)) (aa_ ac_ ad_))))
   (af_ (as_ (i:=4) bn_.nd rfl (by trivial) (ez_ d2_ (by rfl) T.n_list boot_list (aa_ (pv 1) ad_)))
   (af_ (as_ (i:=5) bn_.nd rfl (by trivial) ac_)
   (af_ (ea_ AS (fW_ (pv 4) (fun _=>rfl)) (af_ (as_ (i:=2) bn_.nd rfl (by trivial) (ah_ (oD_ T) (hr.mono (by decide)) (by rfl) T.m_plus T.F_plus.kp T.B_plus .nil au_ (aa_ (pv 2) (aa_ (ah_ (iT_ T) (hr.mono (by decide)) (by rfl) T.m_times T.F_times.kp T.B_times .nil au_ (aa_ (pv 3) (aa_ (ah_ (dI_ T) (hr.mono (by decide)) (by rfl) T.m_poly T.F_poly.kp T.B_poly .nil au_ (aa_ (cY_ (aa_ (aU_ cg_ (pv 4) ac_ (fun _ _=>rfl)) ad_)) (aa_ ac_ ad_))) ad_))) ad_))))
   (af_ (as_ (i:=3) bn_.nd rfl (by trivial) (ah_ (iT_ T) (hr.mono (by decide)) (by rfl) T.m_times T.F_times.kp T.B_times .nil au_ (aa_ (pv 3) (aa_ (ah_ (dI_ T) (hr.mono (by decide)) (by rfl) T.m_poly T.F_poly.kp T.B_poly .nil au_ (aa_ (cY_ (aa_ (ai_ aW_ (h4_ en_ (pv 0)) (pv 5)) (aa_ ac_ ad_))) (aa_ (ai_ aE_ (pv 5) ac_) ad_))) ad_))))
   (af_ (cP_ (i:=4) bn_.nd rfl (by trivial) (.inl rfl) (XN:=["start","values","total","choosing","differences","taken"]) (sc:=ab_ b4_) (N:=["ahead","behind"]) (own:=2) (js:=[]) rfl (by ac_nf) rfl rfl (qb_ (by rfl) T.n_zip (aa_ (pv 4) (aa_ (ec_ ky_ (pv 4) (fY_ ac_) fZ_) ad_))) (fun _ _ _ _=>(kT_ (K:=K) rfl rfl (aG_ (al_ (i:=0) (show List.Nodup (["ahead","behind"]:List Str) by ac_nf) rfl (Or.inl rfl) (.inr rfl)) (aG_ (al_ (i:=1) (show List.Nodup (["ahead","behind"]:List Str) by ac_nf) rfl (Or.inl rfl) (.inr rfl)) cu_)))) k1_ (fun _ _ _ _=>bO_) (fun _ _ _ _=>(ai_ aW_ (pv 1) (pv 0))))
   (ag_ (iL_ (i:=5) bn_.nd rfl (by trivial) ac_ jk_))))))
   (ag_ (ap_ (pv 2)))))))), ?_⟩
  refine⟨AT _,fun l0 n0=> ?_⟩;refine⟨l0,[],1,rfl,SqL.of ae_,by decide,by decide,iS_ _,fun t1 p1 zt bt H1 s1 np1 ht1 hp1 lo1=> ?_⟩;have sA:ak_ H H1:=(ak_.new n0).trans s1;have fp1:H p1=none:=(ak_.new n0).free np1;refine⟨(by show 1<=sizeLine;decide),fun l2 n2=> ?_⟩;refine⟨l2,[1],1,rfl,SqL.of ae_,by decide,by decide,iS_ _,fun c1 q1 zc bc H2 s2 nq1 hc1 hq1 lo2=> ?_⟩;have sB:ak_ H1 H2:=(ak_.new n2).trans s2;refine⟨_,rfl,a,_,rfl, .inl ((sA.trans sB).seq hS),fun d0 nd0=> ?_⟩;have sC:ak_ H2 (upd H2 d0 (.lst (ws.map V.int))):=ak_.new nd0;have hd0:upd H2 d0 (.lst (ws.map V.int)) d0=some (.lst (ws.map V.int)):=ae_;show q5_ (pR_ (tC (V.int 0)) (bS_ 5)) _ _ _ _;show bS_ 5 (V.int 0) _ _ _;unfold bS_;dsimp only;show q5_ _ _ _ _ _;unfold q5_;show kn_ _ _ _ [some (V.int st),some (V.ref a),some (V.ref t1),some (V.ref c1),some (V.ref d0),some (V.int ((0:Nat):Int))] _;refine d5_ (fun σ H3=>∃(i:Nat) (t p c q d:Addr) (zt zc ds:List Int) (bt bc:Int),σ=[some (.int st),some (.ref a),some (.ref t),some (.ref c),some (.ref d),some (.int i)]/\ak_ H H3/\H3 t=some (.tup [.ref p, .int bt])/\H3 p=some (.lst (zt.map V.int))/\H p=none/\H3 c=some (.tup [.ref q, .int bc])/\H3 q=some (.lst (zc.map V.int))/\H3 d=some (.lst (ds.map V.int))/\Tv st ws i zt bt zc bc ds)
   (fun(σ:L2.St) H3=>match σ[4]? with|some (some (V.ref l))=>(match H3 l with|some (.lst xs)=>xs.length|_=>0)|_=>0)
   ⟨0,t1,p1,c1,q1,d0,zt,zc,ws,bt,bc,rfl,(sA.trans sB).trans sC,sC _ _ (sB _ _ ht1),sC _ _ (sB _ _ hp1),fp1,sC _ _ hc1,sC _ _ hq1,hd0,Tv.start lo1 lo2⟩ ?_ ?_
  .clear hd0 sC nd0 sB hc1 hq1 lo2 nq1 s2 n2 fp1 sA hp1 ht1 lo1 np1 s1 n0;rintro σ H3 ⟨i,t,p,c,q,d,zt,zc,ds,bt,bc,rfl,s3,ht,hp,fp,hc,hq,hd,tv⟩;rcases BP i ws.length with hi|hi
   .have eds:ds=dl (vf ws) i 0::((List.range (ws.length-i-1)).map fun j=>dl (vf ws) i (j+1)):=by
     rw [tv.ds,show ws.length-i=(ws.length-i-1)+1 by lia,List.range_succ_eq_map];simp [Function.comp_def]
    have hdd:(dl (vf ws) i 0).natAbs<=2^212:=b8_ (m1_ (pG_ hv) i 0) (by lia);have sq:2*i*i<=22*11:=Bq (by lia) (by lia);have nc:=tv.nc;have nt:=tv.nt;have gc:Gp zc bc:=⟨by lia,tv.dc.mono (by lia),tv.lc,b8_ tv.bc (by lia)⟩;have gt:Gp zt bt:=⟨by lia,tv.dt.mono (by lia),tv.lt.1,b8_ tv.bt (by lia)⟩;refine⟨_,rfl,true, .inl ⟨_,SqL.of hd,by rw [eds];rfl⟩,ie_ ?_⟩;refine⟨_,rfl,_,rfl,_,rfl,d,_,_, .int (dl (vf ws) i 0),rfl,rfl,SqL.of hd,by rw [eds];exact nZ_ (i:=0) (by simp),(by show 1<=sizeLine;decide),fun l4 n4=> ?_⟩;refine⟨l4,[dl (vf ws) i 0],1,rfl,SqL.of ae_,by simp,by decide,iS_ _,fun t4 p4 z3 b3 H4 s4 np4 ht4 hp4 lo3=> ?_⟩;have s34:ak_ H3 H4:=(ak_.new n4).trans s4;clear s4 n4 np4;obtain⟨u1,u2,u3,u4⟩:=Tv.one (s:=st) hdd lo3;have g3:Gp z3 b3:=⟨by lia,u3.mono (by decide),by lia,by rw [u2];exact iS_ _⟩;refine⟨c,t4,q,p4,zc,z3,bc,b3,rfl,s34 _ _ hc,s34 _ _ hq,ht4,hp4,gc,g3,by rw [u2,Int.mul_one];exact gc.top,fun t5 p5 z4 b4 H5 s5 np5 ht5 hp5 lo4=> ?_⟩;have s35:=s34.trans s5;clear s34 s5 ht4 hp4 np5;obtain⟨w1,w2,w3,w4,w5⟩:=tv.two (by lia) hdd lo3 lo4;have g4:Gp z4 b4:=⟨by lia,w4.mono (by lia),w2,b8_ w3 (by lia)⟩;refine⟨t,t5,p,p5,zt,z4,bt,b4,rfl,s35 _ _ ht,s35 _ _ hp,ht5,hp5,gt,g4,b6_ tv.bt w3 (by lia),fun t6 p6 z7 b7 H6 s6 np6 ht6 hp6 lo7=> ?_⟩;have fp6:H p6=none:=(s3.trans s35).free np6;have s36:=s35.trans s6;clear s35 s6 ht5 hp5 np6;refine⟨_,rfl,_,rfl,st,rfl,_,rfl,_,_,rfl,rfl,(by show 2<=sizeLine;decide),fun l7 n7=> ?_⟩;refine⟨_,rfl,_,_,rfl,rfl, ?_⟩;refine⟨l7,[-st-i,1],(i:Int)+1,rfl,SqL.of ae_,by simp,by lia,Ai (show((i:Int)+1).natAbs<=2^4 by lia) (CD (by decide) (by decide)),fun t8 p8 z5 b5 H7 s7 np8 ht8 hp8 lo5=> ?_⟩;have s67:ak_ H6 H7:=(ak_.new n7).trans s7;clear s7 n7 np8;obtain⟨x1,x2,x3,x4⟩:=Tv.five (by lia) hs lo5;have s37:=s36.trans s67;refine⟨c,t8,q,p8,zc,z5,bc,b5,rfl,s37 _ _ hc,s37 _ _ hq,ht8,hp8,gc,⟨by lia,x4.mono (by decide),x2,b8_ x3 (by decide)⟩,b6_ tv.bc x3 (by lia),fun c9 q9 z6 b6 H8 s8 nq9 hc9 hq9 lo6=> ?_⟩;have s38:=s37.trans s8;have s68:=s67.trans s8;have ht6:=s68 _ _ ht6;have hp6:=s68 _ _ hp6;clear s36 s67 s37 s8 ht8 hp8 nq9 s68;have tv2:=tv.step hn hi hv hs lo3 lo4 lo7 lo5 lo6;refine⟨_,rfl,_,rfl,1,rfl,d,_,rfl,SqL.of (s38 _ _ hd), ?_⟩;rw [show(1:Int)=((1:Nat):Int) from rfl,m6_ (by rw [eds];simp)];intro l9 n9;have s9:ak_ H8 (upd H8 l9 (.lst ((ds.drop 1).map V.int))):=ak_.new n9;have hl9:upd H8 l9 (.lst ((ds.drop 1).map V.int)) l9=some (.lst ((ds.drop 1).map V.int)):=ae_;generalize upd H8 l9 (.lst ((ds.drop 1).map V.int))=H9 at s9 hl9⊢;have sN:=s38.trans s9;have ht6:=s9 _ _ ht6;have hp6:=s9 _ _ hp6;have hc9:=s9 _ _ hc9;have hq9:=s9 _ _ hq9;clear s38 s9 n9;refine⟨d,l9,rfl,⟨_,SqL.of (sN _ _ hd)⟩,⟨_,SqL.of hl9⟩,fun acc na=> ?_⟩;refine m8_ (xs:=ds.map V.int) (ys:=(ds.drop 1).map V.int) (n:=ws.length-(i+1)) (own:=2) (js:=[]) (by rw [eds];simp;lia) (fun j Hj=>ak_ H9 Hj/\Hj acc=some (.lst (((List.range j).map (dl (vf ws) (i+1))).map V.int)))
     ⟨ak_.new na,ae_⟩ (fun j Hj _ h=>⟨h.1.seq (SqL.of (sN _ _ hd)),h.1.seq (SqL.of hl9)⟩) ?_ ?_ lb_ bP_ ?_
    .rintro j x y Hj pp hx hy ⟨sj,hacc⟩ np;rw [tv.ds,Bf,A6] at hx;rw [tv.ds,A6,List.getElem?_drop,A6] at hy;obtain⟨m,hm,rfl⟩:=A4.mp hx;obtain⟨y2,hy2,rfl⟩:=A4.mp hy;obtain⟨m2,hm2,rfl⟩:=A4.mp hy2;obtain⟨q1,q2⟩:=AC.mp hm;obtain⟨q3,q4⟩:=AC.mp hm2;rw [List.getElem_range] at q2 q4;rw [C6] at q1 q3;subst q2;subst q4;refine⟨pp,_,rfl,SqT.of ae_,rfl,_,_,rfl,_,_,rfl,rfl, ?_⟩;refine sa_ ?_;have nacc:acc≠pp:=ao_ hacc np;refine⟨_,rfl,_,rfl,_,_,rfl,rfl,acc,_,_,rfl,rfl,by rw [aj_ nacc];exact hacc,ar_ (by simp;lia),(sj.put (sj.free np)).put na, ?_⟩;rw [ae_,Bv];simp [dl,Nat.add_comm 1 j]
    .rintro Hj ⟨sj,hacc⟩;refine⟨_,rfl,_,_,rfl,rfl, ?_⟩;refine⟨⟨i+1,t6,p6,c9,q9,acc,z7,z6,_,b7,b6,rfl,(s3.trans sN).trans sj,sj _ _ ht6,sj _ _ hp6,fp6,sj _ _ hc9,sj _ _ hq9,hacc,tv2⟩, ?_⟩;show(match Hj acc with|some (.lst xs)=>xs.length|_=>0)<(match H3 d with|some (.lst xs)=>xs.length|_=>0);rw [hacc,hd,eds];simp;lia
    .rintro σ H R R' k ⟨v1,e1,v2,e2,i1,j1,e3,e4,h⟩;exact⟨v1,e1,v2,e2,i1,j1,e3,e4,k _ _ h⟩
   .have he:ds=[]:=by
     rw [tv.ds,show ws.length-i=0 by lia];rfl
    subst he;exact⟨_,rfl,false, .inl ⟨_,SqL.of hd,rfl⟩,d0_ ⟨_,rfl,kk t p zt bt H3 s3 fp ht hp (tv.done hn rfl)⟩⟩
  .intro σ H Q1 Q2 k h;obtain⟨v,e1,b,t1,h⟩:=h;exact⟨v,e1,b,t1,k _ _ h⟩
theorem ed_:FnOk P w K mg base CX0 3 T.f_value T.d_value ["one","at"] (ok_ K):=by
 refine T.F_value.ok dh_ (fun vs H Q E h=> ?_) (fun cdv A outer s H vs Q E hr h=> ?_)
 .obtain⟨_,_,_,_,_,rfl,_⟩:=h;rfl
 .obtain⟨t,p,zs,b,c,rfl,ht,hp,gv,hc,kk⟩:=h;refine⟨_,(af_ (as_ (i:=2) dh_.nd rfl (by trivial) ac_)
   (af_ (bd_ AS rfl (qd_ (by rfl) T.n_reversed (aU_ cp_ (pv 0) ac_ (fun _ _=>rfl))) (al_ (i:=3) dh_.nd rfl (by trivial)) (ag_ (as_ (i:=2) dh_.nd rfl (by trivial) (ai_ aE_ (ai_ (bs_ pC_) (pv 2) (pv 1)) (pv 3)))))
   (af_ (as_ (i:=4) dh_.nd rfl (by trivial) (ah_ (eG_ T) (hr.mono (by decide)) (by rfl) T.m_lowering T.F_lowering.kp T.B_lowering .nil au_ (aa_ (cY_ (aa_ (pv 2) ad_)) (aa_ (aU_ cp_ (pv 0) ac_ (fun _ _=>rfl)) ad_))))
   (ag_ (ap_ (cX_ (aa_ (ai_ dl_ (pv 2) (pv 4)) (aa_ (ai_ dl_ (aU_ cp_ (pv 0) ac_ (fun _ _=>rfl)) (pv 4)) ad_)))))))), ?_⟩
  have n1:=gv.len;have b1:=gv.pos;have b2:=gv.top;refine⟨_,rfl,t,_,_, .ref p,rfl,rfl,SqT.of ht,by rfl,p,_,rfl,SqL.of hp,o5_ (xs:=zs.map V.int) rfl (fun i σ H2=>∃v:Option V,σ=[some (.ref t),some (.int c),some (.int (hor c (zs.reverse.take i))),v,none]/\H2=H) ⟨none,rfl,rfl⟩ (fun i σ H2 _ h=>by obtain⟨_,_,rfl⟩:=h;exact SqL.of hp) ?_ ?_⟩
  .rintro i x σ H2 hi ⟨v,rfl,rfl⟩;rw [<-List.map_reverse,A6] at hi;obtain⟨z,hz,rfl⟩:=A4.mp hi;have hlt:i<zs.reverse.length:=(AC.mp hz).1;have bd:=nI_ (a:=c) (l:=zs.reverse) hc (fun x hx=>gv.bd x (by simpa using hx)) i (Az hlt);rw [List.length_reverse] at hlt;refine⟨_,rfl,_,rfl,_,_,rfl,rfl,⟨cA_ bd (by lia),cA_ hc (by decide)⟩,_,rfl,_,_,rfl,rfl,some (.int z), ?_,rfl⟩;have e3:zs.reverse.take (i+1)=zs.reverse.take i++[z]:=by rw [AM,hz];rfl
   rw [e3,ds_];rfl
  .rintro σ H2 ⟨v,rfl,rfl⟩;rw [A2,Ca (by simp)];generalize hor c zs.reverse=tot at kk⊢;refine⟨_,rfl,(by show 1<=sizeLine;decide),fun l nl=> ?_⟩;have s1:ak_ H2 (upd H2 l (.lst [.int tot])):=ak_.new nl;refine⟨_,rfl,t,_,_, .int b,rfl,rfl,SqT.of (s1 _ _ ht),by rfl,l,[tot],b,rfl,SqL.of ae_,by lia, ?_⟩;have eg:dc_ b.natAbs [tot]=Nat.gcd b.natAbs tot.natAbs:=rfl;have g1:=ef_ (b:=b.natAbs) (by lia) [tot];have g2:=ih_ (b:=b.natAbs) (by lia) [tot];rw [eg] at g1 g2⊢;refine⟨_,rfl,_,rfl,_,_,rfl,rfl,m2_ (b:=b) (by lia) (b8_ (n:=40) (by lia) (by decide)) g1 g2,_,rfl,t,_,_, .int b,rfl,rfl,SqT.of (s1 _ _ ht),by rfl,_,rfl,_,_,rfl,rfl,m2_ (b:=b) (by lia) (b8_ (n:=40) (by lia) (by decide)) g1 g2,(by show 2<=sizeLine;decide),fun u nu=> ?_⟩;exact kk u _ _ _ (s1.put (s1.free nu)) ae_ ⟨rfl,rfl⟩
theorem bk_:FnOk P w K mg base (CX1 P w) 2 T.f_need_between T.d_need_between ["thing","least","greatest"] (sI_ T.c_NoBound):=by
 refine T.F_need_between.okx eq_ (fun vs H Q E h=> ?_) (fun cdv A outer s H vs Q E hr h hR hp=> ?_)
 .obtain⟨_,_,_,rfl,_⟩:=h;rfl
 .obtain⟨v,lo,hi,rfl,ht,kk,ke⟩:=h;refine⟨_,(ag_ (b5_ (kL_ (iK_ (fs_ (ah_ (h9_ T) (hr.mono (by decide)) (by rfl) T.m_is_whole T.F_is_whole.kp T.B_is_whole .nil au_ (aa_ (pv 0) ad_)))) (kL_ (aA_ gU_ (pv 0) (pv 1) (aH_ _)) (kK_ (aA_ gV_ (pv 0) (pv 2) (aH_ _))))).pt (ag_ (mw_ hR (by rfl) T.m_NoBound T.x_NoBound rfl (aa_ (oy_ (f0_ kU_ (f0_ (kV_ (pv 1)) (f0_ kU_ (f0_ (kV_ (pv 2)) qa_))))) ad_))) aP_)), ?_⟩;have no:¬Within lo hi v->∀D:Ends,nj_ T.c_NoBound E (pQ_ (fun σ H Q=>tJc (tC (.str "not a whole number from ")) (tJc (fun σ H Q=>q4_ 1 σ H fun x H1=>∃i,x= .int i/\i.natAbs.log2<1920/\Q (.str (toString i)) H1) (tJc (tC (.str " to ")) (tJc (fun σ H Q=>q4_ 2 σ H fun x H1=>∃i,x= .int i/\i.natAbs.log2<1920/\Q (.str (toString i)) H1) tJn)))
    Str.empty σ H Q) se_) D [some v,some (.int lo),some (.int hi)] H:=fun hn D=>by
   obtain⟨⟨l1,l2,l3,l4⟩,he⟩:=ke hn;obtain⟨a,rfl⟩:=Ak l1;obtain⟨b,rfl⟩:=Ak l3;have y:=np_ a (by lia) b (by lia);have z:=np_ b (by lia) a (by lia);simp only [AE,Au] at y z;obtain⟨⟨⟨⟨y1,y2⟩,y3⟩,y4⟩,y5⟩:=y;exact⟨_,rfl,y2,_,rfl,_,rfl,y1,_,rfl,y3,_,rfl,y4,_,rfl,_,rfl,z.1.1.1.1,_,rfl,y5,y5,(by show 1<=sizeLine;decide),he⟩
  refine⟨v,rfl,v,rfl,ht,isI v,rfl, ?_⟩;cases hv:isI v with
  |false=>exact ie_ (ie_ (no (fun hw=>by rw [jB_ hw] at hv;cases hv) _))
  |true=>
   obtain⟨i,rfl⟩:∃i,v= .int i:=by
    cases v<;>first|exact⟨_,rfl⟩|cases hv
   refine d0_ ⟨_,rfl,_,rfl,i,lo,rfl,rfl,_,rfl,eS_ (fun hl=> ?_) (fun hl=> ?_)⟩
   .exact ie_ (no (fun⟨j,e,h1,h2⟩=>by cases e;lia) _)
   .refine⟨_,rfl,_,rfl,i,hi,rfl,rfl,_,rfl,eS_ (fun hg=> ?_) (fun hg=> ?_)⟩
    .exact no (fun⟨j,e,h1,h2⟩=>by cases e;lia) _
    .exact kk ⟨i,rfl,by lia,by lia⟩
theorem h8_:FnOk P w K mg base CX0 1 T.f_lost T.d_lost ["lift"] (pV_ K):=by
 refine T.F_lost.ok oq_ (fun vs H Q E h=> ?_) (fun cdv A outer s H vs Q E hr h=> ?_)
 .obtain⟨_,_,rfl,_⟩:=h;rfl
 .obtain⟨v,p,rfl,hv,⟨p1,p2,p3,p4⟩,kk⟩:=h;refine⟨_,(ag_ (ap_ (ai_ aW_ (ai_ ck_ (ai_ aW_ (aU_ bc_ (pv 0) ac_ (fun _ _=>rfl)) (aU_ bc_ (pv 0) ac_ (fun _ _=>rfl))) (aU_ bc_ (pv 0) ac_ (fun _ _=>rfl))) ac_))), ?_⟩;refine⟨_,rfl,_,1,_,hv,rfl,rfl,fun u hu=> ?_⟩;rw [ee_ hu];refine⟨_,rfl,_,0,_,hv,rfl,rfl,fun u hu=> ?_⟩;rw [ee_ hu];refine⟨_,_,rfl,rfl,_,rfl,_,2,_,hv,rfl,rfl,fun u hu=> ?_⟩;rw [ee_ hu];exact⟨_,_,rfl,rfl, .inr ⟨by lia,by lia⟩,_,_,rfl,rfl,kk⟩
theorem gZ_:FnOk P w K mg base CX0 1 T.f_choose T.d_choose ["number","chosen"] (rD_ K):=by
 refine T.F_choose.ok di_ (fun vs H Q E h=> ?_) (fun cdv A outer s H vs Q E hr h=> ?_)
 .obtain⟨_,_,rfl,_⟩:=h;rfl
 .obtain⟨n,k,rfl,h1,h2,kk⟩:=h;refine⟨_,(af_ (b5_ (kL_ (aA_ gU_ (pv 1) ac_ (aH_ _)) (kK_ (aA_ gV_ (pv 1) (pv 0) (aH_ _)))).pt (ag_ (ap_ ac_)) aP_)
   (af_ (as_ (i:=2) di_.nd rfl (by trivial) ac_)
   (af_ (bd_ AS rfl (dj_ (by rfl) T.n_range (aa_ (pv 1) ad_)) (al_ (i:=3) di_.nd rfl (by trivial)) (ag_ (as_ (i:=2) di_.nd rfl (by trivial) (ai_ f2_ (ai_ ck_ (pv 2) (ai_ aW_ (pv 0) (pv 3))) (ai_ aE_ (pv 3) ac_)))))
   (ag_ (ap_ (pv 2)))))), ?_⟩
  refine⟨_,rfl,_,_,rfl,rfl,_,rfl,eS_ (fun h=>absurd h (by lia)) (fun _=> ?_)⟩;refine⟨_,rfl,_,rfl,_,_,rfl,rfl,_,rfl,eS_ (fun h=>absurd h (by lia)) (fun _=> ?_)⟩;refine⟨_,rfl,(k:Int),rfl,by lia,by lia,bT_ (lo:=0) (n:=(k:Int).toNat) (fun i σ H2=>(∃v3,σ=[some (.int n),some (.int k),some (.int (chF n i)),v3])/\H2=H) ⟨⟨none,rfl⟩,rfl⟩ ?_ ?_⟩
  .rintro i σ H2 hi ⟨⟨v3,rfl⟩,rfl⟩;refine⟨_,rfl,_,rfl,_,rfl,_,_,rfl,rfl,_,_,rfl,rfl, .inr ⟨by lia,by lia⟩,_,rfl,_,_,rfl,rfl,_,_,rfl,rfl,⟨by lia,by lia⟩,⟨some (.int (0+(i:Int))), ?_⟩,rfl⟩;rw [show chF n (i+1)=chF n i*(n-(0+(i:Int)))/((0+(i:Int))+1) by rw [Int.zero_add];rfl];rfl
  .rintro σ H2 ⟨⟨v3,rfl⟩,rfl⟩;rw [AU];exact⟨_,rfl,kk⟩
theorem dW_:FnOk P w K mg base CX0 1 T.f_with_more T.d_with_more ["numbers","place","more"] (sF_ K):=by
 refine T.F_with_more.ok gL_ (fun vs H Q E h=> ?_) (fun cdv A outer s H vs Q E hr h=> ?_)
 .obtain⟨_,_,_,_,rfl,_⟩:=h;rfl
 .obtain⟨v,t,p,m,rfl,hv,hp,hl,kk⟩:=h;refine⟨_,(ag_ (ap_ (ai_ k5_ (ai_ k5_ (ec_ kx_ (pv 0) fZ_ (fY_ (pv 1))) (ce_ (aa_ (ai_ aE_ (aU_ bc_ (pv 0) (pv 1) (fun _ _=>rfl)) (pv 2)) ad_))) (ec_ kx_ (pv 0) (fY_ (ai_ aE_ (pv 1) ac_)) fZ_)))), ?_⟩;have hlen:∀vs:List V,vs.length=(t.map D.i).length->vs.length=t.length:=fun vs e=>by rw [e,A2]
  refine⟨_,rfl,_,rfl,(p:Int),rfl,t.map .i,(t.take p).map .i,hv,pJ_,fun vs e h=> ?_,fun u1 H1 s1 hu1=> ?_⟩
  .have e:=hlen vs e;rw [HT.sIx_nat] at h;lia
  refine⟨_,rfl,_,rfl,t.map .i,(p:Int), .i (t.getD p 0),hv.mono s1,rfl, ?_,fun u hu=> ?_⟩
  .refine rU_ (j:=p) rfl ?_;rw [A6,A1 hp];simp [List.getD,hp]
  rw [ee_ hu];refine⟨_,rfl,_,_,rfl,rfl,(by show 1<=sizeLine;decide),fun q2 H2 n2 s2 h2=> ?_⟩;have hu2:Is H2 (.t [.i (t.getD p 0+m)]) (.ref q2):=nD_ h2 (az_ pA_ ax_);refine⟨_,_,hu1.mono s2,hu2,Az (ar_ (by rw [A2,Af];show _+1<=1000;lia)),fun u3 H3 s3 hu3=> ?_⟩;refine⟨_,rfl,_,rfl,_,_,rfl,rfl,(p:Int)+1,rfl,t.map .i,(t.drop (p+1)).map .i,((hv.mono s1).mono s2).mono s3, ?_,fun vs e h=> ?_,fun u4 H4 s4 hu4=> ?_⟩
  .rw [show((p:Int)+1)=((p+1:Nat):Int) by lia];exact n7_ (by lia)
  .have e:=hlen vs e;rw [show((p:Int)+1)=((p+1:Nat):Int) by lia,HT.sIx_nat] at h;lia
  refine⟨_,_,hu3.mono s4,hu4,Az (ar_ (by rw [AO,A2,A2,Af,List.length_drop];show _+1+_<=1000;lia)),fun u5 H5 s5 hu5=> ?_⟩;refine kk u5 H5 ((((s1.trans s2).trans s3).trans s4).trans s5) ?_;have e:(t.take p).map D.i++[D.i (t.getD p 0+m)]++(t.drop (p+1)).map D.i=(wmF t p m).map D.i:=by
   unfold wmF;rw [<-op_ hp,AL,AL];rfl
  rw [e] at hu5;exact hu5
theorem c0_:∀n:Nat,FnOk P w K mg base CX0 (n+2) T.f_put_between T.d_put_between ["numbers","first","last","alike"] (sH_ n K)
 |0=>⟨fun vs H Q E h=>(by obtain⟨_,_,_,_,_,_,_,h,_⟩:=h;exact absurd h (Nat.not_lt_zero _)),fun A outer s H args us vs Q E _ _ _ _ h=>(by obtain⟨_,_,_,_,_,_,_,h,_⟩:=h;exact absurd h (Nat.not_lt_zero _))⟩
 |n+1=>by
  have ih:=c0_ n;refine T.F_put_between.ok a4_ (fun vs H Q E h=> ?_) (fun cdv A outer s H vs Q E hr h=> ?_)
  .obtain⟨_,_,_,_,_,rfl,_⟩:=h;rfl
  .obtain⟨v,t,p,g,a,rfl,hv,hg,hn,hp,⟨kl,kn,ks,k3⟩,kk⟩:=h;refine⟨_,(af_ (b5_ (aA_ eE_ (pv 1) (pv 2) (aH_ _)) (ag_ (ap_ (cf_ (aa_ (ce_ (aa_ (ah_ (dW_ T) (hr.mono (by lia)) (by rfl) T.m_with_more T.F_with_more.kp T.B_with_more .nil au_ (aa_ (pv 0) (aa_ (pv 1) (aa_ (pv 3) ad_)))) (aa_ (ah_ (gZ_ T) (hr.mono (by lia)) (by rfl) T.m_choose T.F_choose.kp T.B_choose .nil au_ (aa_ (ai_ aE_ (aU_ bc_ (pv 0) (pv 1) (fun _ _=>rfl)) (pv 3)) (aa_ (pv 3) ad_))) ad_))) ad_)))) aP_)
   (af_ (as_ (i:=4) a4_.nd rfl (by trivial) (cf_ ad_))
   (af_ (bd_ AS rfl (dj_ (by rfl) T.n_range (aa_ (ai_ aE_ (pv 3) ac_) ad_)) (al_ (i:=5) a4_.nd rfl (by trivial)) (af_ (as_ (i:=6) a4_.nd rfl (by trivial) (ah_ (gZ_ T) (hr.mono (by lia)) (by rfl) T.m_choose T.F_choose.kp T.B_choose .nil au_ (aa_ (ai_ aE_ (aU_ bc_ (pv 0) (pv 1) (fun _ _=>rfl)) (pv 5)) (aa_ (pv 5) ad_))))
   (ag_ (bd_ AS rfl (a9_ (ah_ ih hr (by rfl) T.m_put_between T.F_put_between.kp T.B_put_between .nil au_ (aa_ (ah_ (dW_ T) (hr.mono (by lia)) (by rfl) T.m_with_more T.F_with_more.kp T.B_with_more .nil au_ (aa_ (pv 0) (aa_ (pv 1) (aa_ (pv 5) ad_)))) (aa_ (ai_ aE_ (pv 1) ac_) (aa_ (pv 2) (aa_ (ai_ aW_ (pv 3) (pv 5)) ad_)))))) (dV_ rfl (aG_ (al_ (i:=7) a4_.nd rfl (by trivial)) (aG_ (al_ (i:=8) a4_.nd rfl (by trivial)) cu_))) (ag_ (bM_ (jN_ BR PySem.F.slot_list_append PySem.F.type_list_append dp_ (pv 4) (aa_ (ce_ (aa_ (pv 7) (aa_ (ai_ ck_ (pv 6) (pv 8)) ad_))) ad_))))))))
   (ag_ (ap_ (pv 4)))))), ?_⟩
   have kp:=ks p (A5 _) (Nat.le_add_right _ _);have kp0:=kn p;have at_p:∀{H':Hp},ak_ H H'->∀{v':V},Is H' (tI t) v'->atI (t.map D.i) (p:Int)=some (.i (t.getD p 0)):=fun _ _ _=>by
    refine rU_ (j:=p) rfl ?_;rw [A6,A1 (by lia)];simp [List.getD,show p<t.length by lia]
   refine⟨_,rfl,_,rfl,rfl,_,rfl,lA_ (fun e=> ?_) (fun e=> ?_)⟩
   .have hg0:g=0:=by lia
    subst hg0;refine⟨_,rfl,_,rfl,_,rfl,v,t,p,a,rfl,hv,by lia,kl,fun u1 H1 s1 hu1=> ?_⟩;refine⟨_,rfl,_,rfl,t.map .i,(p:Int),_,hv.mono s1,rfl,at_p s1 (hv.mono s1),fun u hu=> ?_⟩;rw [ee_ hu];refine⟨_,rfl,_,_,rfl,rfl,_,rfl,t.getD p 0+a,a,rfl,by lia,by lia, ?_⟩;refine⟨(by show 2<=sizeLine;decide),fun q2 H2 n2 s2 h2=>⟨(by show 1<=sizeLine;decide),fun q3 H3 n3 s3 h3=> ?_⟩⟩;have s02:=s1.trans s2;refine kk q3 H3 (s02.trans s3) (s02.free n3) (fg_ h3 (az_ ((oS_ (x:=(wmF t p (a:Int),chF (t.getD p 0+(a:Int)) a)) h2 (hu1.mono s2)).mono s3) ax_))
   .obtain⟨g,rfl⟩:∃g',g=g'+1:=⟨g-1,by lia⟩;refine⟨AT _,fun fo H1 nf s1 hfo=> ?_⟩;have a3:a<=3:=by rcases k3 with z|z;lia;exact z
    have big:=mD_ (g:=g+1) (t:=t) (p:=p) (a:=a) (by lia) (by lia);have a15:(a:Int)<=15:=by lia
    refine⟨_,rfl,_,_,rfl,rfl,_,rfl,by lia,by lia, ?_⟩;rw [show((a:Int)+1).toNat=a+1 by lia];refine bT_ (lo:=0) (n:=a+1) (fun h σ H2=>(∃v5 v6 v7 v8,σ=[some v,some (.int p),some (.int ((p:Int)+((g+1:Nat):Int))),some (.int a),some (.ref fo),v5,v6,v7,v8])/\ak_ H H2/\∃vs,H2 fo=some (.lst vs)/\Iss H2 (((List.range h).flatMap fun h:Nat=>(pbF g (wmF t p (h:Int)) (p+1) (a-h)).map fun x=>(x.1,chF (t.getD p 0+(h:Int)) h*x.2)).map prD) vs) ⟨⟨none,none,none,none,rfl⟩,s1,[],hfo,ax_⟩ ?_ ?_
    .rintro h σ H2 hh ⟨⟨v5,v6,v7,v8,rfl⟩,s2,vs2,hf2,hi2⟩;rw [Int.zero_add];have hb:∀j,j<=(pbF g (wmF t p (h:Int)) (p+1) (a-h)).length->((List.range h).flatMap fun h:Nat=>(pbF g (wmF t p (h:Int)) (p+1) (a-h)).map fun x=>(x.1,chF (t.getD p 0+(h:Int)) h*x.2)).length+j<=1048576:=fun j hj=>by
      have:=h3_ (fun h:Nat=>(pbF g (wmF t p (h:Int)) (p+1) (a-h)).map fun x=>(x.1,chF (t.getD p 0+(h:Int)) h*x.2)) hh;rw [A2] at this;unfold pbF at big;lia
     rw [bl_];generalize ((List.range h).flatMap fun h:Nat=>(pbF g (wmF t p (h:Int)) (p+1) (a-h)).map fun x=>(x.1,chF (t.getD p 0+(h:Int)) h*x.2))=pr at hi2 hb⊢;obtain⟨c1,c2,_⟩:=pi_ (n:=t.getD p 0+(h:Int)) (k:=h) (by lia) (by lia);refine⟨_,rfl,_,rfl,t.map .i,(p:Int),_,hv.mono s2,rfl,at_p s2 (hv.mono s2),fun u hu=> ?_⟩;rw [ee_ hu];refine⟨_,rfl,_,_,rfl,rfl,_,rfl,t.getD p 0+(h:Int),h,rfl,by lia,by lia, ?_⟩;refine⟨_,rfl,_,rfl,_,rfl,v,t,p,(h:Int),rfl,hv.mono s2,by lia,kl,fun u3 H3 s3 hu3=> ?_⟩;refine⟨_,rfl,_,_,rfl,rfl,_,rfl,_,rfl,_,rfl,_,_,rfl,rfl,u3,wmF t p (h:Int),p+1,g,a-h, ?_,hu3,by lia,by lia,by rw [gF_];lia,⟨by rw [gF_];exact kl,fun i=> ?_,fun i hi1 hi2=> ?_, .inr (by lia)⟩,fun rl H4 s4 nrl hrl=> ?_⟩
     .have e1:((p:Int)+1)=((p+1:Nat):Int):=by lia
      have e2:(p:Int)+((g+1:Nat):Int)=((p+1:Nat):Int)+(g:Int):=by lia
      have e3:(a:Int)-(h:Int)=((a-h:Nat):Int):=by lia
      show [u3,V.int ((p:Int)+1),V.int ((p:Int)+((g+1:Nat):Int)),V.int ((a:Int)-(h:Int))]=_;rw [e1,e2,e3]
     .rw [md_ (by lia)];have:=kn i;split<;>lia
     .rw [md_ (by lia),A7 (by lia)];have:=ks i (by lia) (by lia);lia
     obtain⟨_,rvs,e,hrl4,hri⟩:=dd_ hrl;cases e;generalize pbF g (wmF t p (h:Int)) (p+1) (a-h)=O at hri hb⊢;have rlen:rvs.length=O.length:=by rw [hri.length,A2]
     have s24:=s3.trans s4;have hf4:=s24 _ _ hf2;have rlfo:rl≠fo:=by rintro rfl;rw [s3 _ _ hf2] at nrl;cases nrl
     refine⟨rl,rfl,⟨_,SqL.of hrl4⟩,b0_ (xs:=rvs) (fun j σ H5=>(∃v7 v8,σ=[some v,some (.int p),some (.int ((p:Int)+((g+1:Nat):Int))),some (.int a),some (.ref fo),some (.int h),some (.int (chF (t.getD p 0+(h:Int)) h)),v7,v8])/\ak_ H H5/\H5 rl=some (.lst rvs)/\cL_ H4 H5/\∃vs,H5 fo=some (.lst vs)/\Iss H5 ((pr++(O.take j).map fun x=>(x.1,chF (t.getD p 0+(h:Int)) h*x.2)).map prD) vs) ⟨⟨_,_,rfl⟩,s2.trans s24,hrl4,cL_.of_same (ak_.refl H4),vs2,hf4,by simpa using hi2.mono s24⟩ (fun j σ H5 _ h=>SqL.of h.2.2.1) ?_ ?_⟩
     .rintro j y σ H5 hj ⟨⟨v7,v8,rfl⟩,s5,hrl5,t5,vs5,hf5,hi5⟩;obtain⟨dd,hdd,hy⟩:=hri.of_get hj;rw [A6] at hdd;obtain⟨x,hx',rfl⟩:=A4.mp hdd;have hjl:j<O.length:=(AC.mp hx').1;obtain⟨q,u6,rfl,hq,hu6⟩:=oE_ (iM_ t5 hy);have vl:=hi5.length;rw [A2,AO,A2,Af] at vl;have hbj:=hb (j+1) (by lia);refine⟨q,_,rfl,SqT.of hq,rfl,_,_,rfl,_,_,rfl,rfl, ?_⟩;refine⟨_,rfl, .inl ⟨rfl,_,SqL.of hf5⟩,_,rfl,_,rfl,_,rfl,_,_,rfl,rfl, .inl ⟨by lia,by lia⟩,(by show 2<=sizeLine;decide),fun q6 H6 n6 s6 h6=> ?_⟩;refine⟨fo,vs5,_,rfl,rfl,s6 _ _ hf5,oN_ (by lia),⟨_,_,rfl⟩,(s5.trans s6).put nf,by rw [aj_ rlfo];exact s6 _ _ hrl5,(t5.trans (cL_.of_same s6)).trans (cL_.upd (s6 _ _ hf5)),_,ae_, ?_⟩;have ez:(pr++(O.take (j+1)).map fun x=>(x.1,chF (t.getD p 0+(h:Int)) h*x.2))=(pr++(O.take j).map fun x=>(x.1,chF (t.getD p 0+(h:Int)) h*x.2))++[(x.1,chF (t.getD p 0+(h:Int)) h*x.2)]:=by
       rw [AM,hx',Option.toList_some,AL,BX];rfl
      rw [ez,AL];refine(kO_ ((cL_.of_same s6).trans (cL_.upd (s6 _ _ hf5))) hi5).append ?_;exact az_ (iM_ (cL_.upd (s6 _ _ hf5)) (oS_ (x:=(x.1,chF (t.getD p 0+(h:Int)) h*x.2)) h6 (hu6.mono s6))) ax_
     .rintro σ H5 ⟨⟨v7,v8,rfl⟩,s5,hrl5,t5,vs5,hf5,hi5⟩;rw [rlen,AZ] at hi5;exact⟨⟨_,_,_,_,rfl⟩,s5,vs5,hf5,hi5⟩
    .rintro σ H2 ⟨⟨v5,v6,v7,v8,rfl⟩,s2,vs2,hf2,hi2⟩;exact⟨_,rfl,kk fo H2 s2 nf (fg_ hf2 hi2)⟩
theorem dm_:FnOk P w K mg base CX0 9 T.f_how_many_orders T.d_how_many_orders ["d","marks"] (rA_ K):=by
 refine T.F_how_many_orders.ok av_ (fun vs H Q E h=> ?_) (fun cdv A outer s H vs Q E hr h=> ?_)
 .obtain⟨_,_,_,rfl,_⟩:=h;rfl
 .obtain⟨d,v,mk,rfl,d1,d5,hv,⟨mok,mlen,mcap,m3,mfew⟩,kk⟩:=h;refine⟨_,(af_ (as_ (i:=2) av_.nd rfl (by trivial) (mA_ (ig_ hr) (ez_ fi_ (by rfl) T.n_tuple boot_tuple (aa_ (ai_ k3_ (cf_ (aa_ ac_ ad_)) (pv 0)) ad_)) ac_))
   (af_ (bd_ AS rfl (a9_ (mz_ (qI_ hr) hr.hd (by rfl) T.n_sorted (by rfl) T.n_set (aa_ (pv 1) ad_))) (al_ (i:=3) av_.nd rfl (by trivial)) (af_ (as_ (i:=4) av_.nd rfl (by trivial) iP_)
   (af_ (bd_ AS rfl (ow_ (pv 2)) (al_ (i:=5) av_.nd rfl (by trivial)) (ag_ (bd_ AS rfl (a9_ (ah_ (c0_ T 6) (hr.mono (by decide)) (by rfl) T.m_put_between T.F_put_between.kp T.B_put_between .nil au_ (aa_ (pv 5) (aa_ (ai_ aW_ (aU_ bc_ (pv 3) ac_ (fun _ _=>rfl)) ac_) (aa_ (ai_ aW_ (aU_ bc_ (pv 3) ac_ (fun _ _=>rfl)) ac_) (aa_ (jN_ BR PySem.F.slot_list_count PySem.F.type_list_count (la_ hr) (pv 1) (aa_ (pv 3) ad_)) ad_)))))) (dV_ rfl (aG_ (al_ (i:=6) av_.nd rfl (by trivial)) (aG_ (al_ (i:=7) av_.nd rfl (by trivial)) cu_))) (ag_ (kM_ (ig_ hr) (pv 4) (pv 6) (ai_ aE_ (mB_ (ig_ hr) (pv 4) (pv 6) ac_ ⟨rfl,rfl,rfl,rfl⟩) (ai_ ck_ (kW_ (ig_ hr) (pv 2) (pv 5) (fun _ _=>rfl)) (pv 7))) rfl)))))
   (ag_ (as_ (i:=2) av_.nd rfl (by trivial) (pv 4))))))
   (ag_ (ap_ (ox_ rfl (by rfl) T.n_sum (pv 2)))))), ?_⟩
  obtain⟨wa,wvs,rfl,hwa,hwi⟩:=dd_ hv;have wlen:wvs.length=mk.length:=by rw [hwi.length,A2]
  refine fun kd nkd=> ?_;have s0:ak_ H (upd H kd (.dT [])):=ak_.new nkd;have hkd0:upd H kd (.dT []) kd=some (.dT []):=ae_;generalize upd H kd (.dT [])=H0 at s0 hkd0⊢;refine⟨(by show 1<=sizeLine;decide),fun l1 H1 n1 s1 h1=> ?_⟩;refine⟨_,rfl, .i 0,d,fg_ h1 (az_ pA_ ax_),rfl,by lia,by lia,Az (ar_ (by lia)),fun l2 H2 n2 s2 h2=> ?_⟩;refine⟨.ref l2,_,rfl,h2,fun t3 H3 n3 s3 h3=> ?_⟩;have s03:=(s1.trans s2).trans s3;have hkd3:=s03 _ _ hkd0;rw [AU] at h3;have ht3:H3 t3=some (.tup ((dZ_ (List.replicate d 0)).map kV)):=by
   rw [<-D4] at h3;obtain⟨a,e,ha⟩:=g0_ (xs:=List.replicate d 0) h3;cases e;rw [eQ_];exact ha
  refine⟨hkd3,dZ_ (List.replicate d 0),t3,rfl,ht3, ?_⟩;have e0:gR_ ([]:List (List Key×V)) (dZ_ (List.replicate d 0)) (.int 1)=c5_ [(List.replicate d 0,1)]:=fM_ [] _ _;rw [e0];have sH:ak_ H (upd H3 kd (.dT (c5_ [(List.replicate d 0,1)]))):=(s0.trans s03).put nkd;have hkd:upd H3 kd (.dT (c5_ [(List.replicate d 0,1)])) kd=some (.dT (c5_ [(List.replicate d 0,1)])):=ae_;generalize upd H3 kd (.dT (c5_ [(List.replicate d 0,1)]))=H4 at sH hkd⊢;clear h1 h2 h3 ht3 hkd3 s03 s1 s2 s3 n1 n2 n3 hkd0 s0 e0 H0 H1 H2 H3;have tab0:TabP (KC d (hK_ mk [])) [(List.replicate d 0,(1:Int))]:=by
   refine⟨by simp,fun x hx=> ?_⟩;rw [BB.mp hx];refine⟨by simp,fun i=> ?_⟩;rw [AD,List.getElem?_replicate];split<;>simp [hK_]
  refine⟨_,rfl, .ref wa,mk.map e8_,3,rfl,by rw [<-i4_];exact hv.mono sH,by decide,mr_,⟨(gD_ mk).map e8_,by rw [A2];lia,fun xs hx=>by
   obtain⟨m,hm,rfl⟩:=Aa.mp hx;exact Cu (df_.mpr hm)⟩,fun yss l0 H5 nd mem so nl0 s5 hq=> ?_⟩
  have ey:=oh_ nd mem so;subst ey;rw [<-i4_] at hq;clear nd mem so;have hhm:d7_ [(List.replicate d 0,(1:Int))] (TF (fun m=>mk.count m) (gD_ mk))=hmF d mk:=by
   simp [d7_,hmF]
  have hS:∀m∈gD_ mk,m∈mk:=fun m hm=>df_.mp hm;have hSn:=og_ mk;generalize hcn:(fun m=>mk.count m)=cnt at hhm;generalize hmF d mk=tot at hhm kk;generalize gD_ mk=S at hq hhm hS hSn;obtain⟨_,lvs,e,hl0,hli⟩:=dd_ hq;cases e;have llen:lvs.length=S.length:=by rw [hli.length,A2]
  refine⟨l0,rfl,⟨_,SqL.of hl0⟩,b0_ (xs:=lvs) (fun i σ H6=>(∃kd D,(∃v3 v4 v5 v6 v7,σ=[some (.int d),some (.ref wa),some (.ref kd),v3,v4,v5,v6,v7])/\H6 kd=some (.dT (c5_ D))/\TabP (KC d (hK_ mk (S.take i))) D/\d7_ D (TF cnt (S.drop i))=tot/\H kd=none)/\ak_ H H6/\H6 l0=some (.lst lvs)/\cL_ H5 H6) ⟨⟨kd,_,⟨none,none,none,none,none,rfl⟩,s5 _ _ hkd,tab0,hhm,nkd⟩,sH.trans s5,hl0,cL_.of_same (ak_.refl H5)⟩ (fun i σ H6 _ h=>SqL.of h.2.2.1) ?_ ?_⟩
  .rintro i y σ H6 hi ⟨⟨kd,D,⟨v3,v4,v5,v6,v7,rfl⟩,hkd6,tab,hsum,nkd⟩,s6,hl6,t6⟩;obtain⟨dd,hdd,hy⟩:=hli.of_get hi;rw [A6] at hdd;obtain⟨x,hx',rfl⟩:=A4.mp hdd;have hil:i<S.length:=(AC.mp hx').1;have exi:S[i]=x:=(AC.mp hx').2;obtain⟨ya,rfl,hya⟩:=g1_ hy;obtain⟨o1,o2,o3⟩:=mok x (hS x (AX hx'));have hS1:S.take (i+1)=S.take i++[x]:=by rw [AM,hx'];rfl
   have cle:∀q,hK_ mk (S.take (i+1)) q<=26:=qZ_ (hSn.sublist (List.take_sublist _ _)) mcap;have cx:cnt x=mk.count x:=by rw [<-hcn]
   have ccle:∀q,hK_ mk (S.take i) q<=hK_ mk (S.take (i+1)) q:=fun q=>by rw [hS1,jx_];lia
   rw [Bb hil,exi,n9_] at hsum;obtain⟨p,hp⟩:∃p:Nat,x.1-1=(p:Int):=⟨(x.1-1).toNat,by lia⟩;obtain⟨g,hg⟩:∃g:Nat,x.2.1-x.1-1=(g:Int):=⟨(x.2.1-x.1-1).toNat,by lia⟩;rw [hp,hg,AU,AU] at hsum;have ccov:∀q:Nat,p<=q->q<=p+g->hK_ mk (S.take i) q+((cnt x:Nat):Int)<=hK_ mk (S.take (i+1)) q:=fun q a b=>by
    have cv:cov q x=true:=by unfold cov;rw [AE,Au,Au];lia
    rw [hS1,jx_,pk_ cv,cx];exact Int.le_refl _
   have a3:g=0\/cnt x<=3:=by
    by_cases h0:g=0
    .exact .inl h0
    .refine .inr ?_;rw [cx];exact m3 x (hS x (AX hx')) (by lia)
   have rok:ps_ p (KC d (hK_ mk (S.take i))) (KC d (hK_ mk (S.take (i+1)))) (spR g (cnt x)):=fun r hr t ht=>by
    obtain⟨e1,e2⟩:=hV_ hr;exact ht.add (by lia) ccle fun q a b=>by rw [e2];exact ccov q a (by lia)
   obtain⟨tab',sum'⟩:=oe_ rok (TF cnt (S.drop (i+1))) tab.key (acc:=[]) TabP.nil;refine fun f nf=> ?_;have s7:ak_ H6 (upd H6 f (.dT [])):=ak_.new nf;have hf7:upd H6 f (.dT []) f=some (.dT (c5_ [])):=ae_;have nfH:H f=none:=s6.free nf;have fkd:f≠kd:=by rintro rfl;rw [hkd6] at nf;cases nf
   generalize upd H6 f (.dT [])=H7 at s7 hf7⊢;refine⟨_,rfl,kd,c5_ D,rfl, .inl (s7 _ _ hkd6),fun o H8 hk8 same8=> ?_⟩;have l8:LTS H7 H8:=LTS.rd (.inl (s7 _ _ hkd6)) same8;have s8:ak_ H H8:=fun b u e=>by rw [same8 b (by rintro rfl;rw [nkd] at e;cases e)];exact s7 _ _ (s6 _ _ e)
   refine mZ_ (fun j σ H9=>(∃v5 v6 v7,σ=[some (.int d),some (.ref wa),some (.ref kd),some (.ref ya),some (.ref f),v5,v6,v7])/\ak_ H H9/\H9 kd=some (.frz o (.dT (c5_ D)))/\H9 l0=some (.lst lvs)/\cL_ H5 H9/\H9 f=some (.dT (c5_ (stP p (spR g (cnt x)) (D.take j) [])))) ⟨⟨_,_,_,rfl⟩,s8,hk8,l8.1 _ _ (s7 _ _ hl6),(t6.trans (cL_.of_same s7)).trans l8.2,by rw [same8 f fkd];exact hf7⟩ (fun j σ H9 _ h=>h.2.2.1) ?_ ?_
   .rintro j k c b σ H9 hj ⟨⟨v5,v6,v7,rfl⟩,s9,hk9,hl9,t9,hf9⟩ hb;unfold c5_ at hj;rw [A6] at hj;obtain⟨⟨t,cv⟩,hD,ekc⟩:=A4.mp hj;simp only [Be] at ekc;obtain⟨rfl,rfl⟩:=ekc;rw [eQ_] at hb;have hDm:(t,cv)∈D:=AX hD;have kt:KC d (hK_ mk (S.take i)) t:=tab.key _ hDm;have k1:t.length=d:=kt.1;have k3:∀i:Nat,0<=t.getD i 0:=fun i=>(kt.2 i).1;have k26:∀i:Nat,p<=i->i<=p+g->t.getD i 0+((cnt x:Nat):Int)<=26:=fun q a b=>by
     have:=(kt.2 q).2;have:=ccov q a b;have:=cle q;lia
    have hx9:Is H9 (lf x) (.ref ya):=jV_ (t9 _ _ hya);have hw9:=hwi.mono s9;rw [ii_ hD];have tabac:=(oe_ rok (fun _=>0) (xs:=D.take j) (fun y hy=>tab.key y (List.mem_of_mem_take hy)) (acc:=[]) TabP.nil).1;generalize stP p (spR g (cnt x)) (D.take j) []=ac at hf9 tabac⊢;refine⟨_,rfl,_,rfl,_,0,_,hx9,rfl,rfl,fun u1 hu1=> ?_⟩;rw [ee_ hu1];refine⟨_,_,rfl,rfl,_,rfl,_,1,_,hx9,rfl,rfl,fun u2 hu2=> ?_⟩;rw [ee_ hu2];refine⟨_,_,rfl,rfl,_,rfl, .inl ⟨rfl,_,SqL.of (s9 _ _ hwa)⟩,_,rfl,wa,wvs, .ref ya,1,_,rfl,rfl,SqL.of (s9 _ _ hwa),n6_ hw9 hx9, ?_⟩;rw [wlen,m7_];refine⟨.ref b,t,p,g,cnt x, ?_,if_ hb,by lia,by decide,by lia,⟨by lia,k3,k26,a3⟩,fun rl H10 s10 nrl hrl=> ?_⟩
    .show [V.ref b,V.int (x.1-1),V.int (x.2.1-2),V.int (mk.count x:Nat)]=_;rw [hp,show x.2.1-2=(p:Int)+(g:Int) by lia,<-hcn]
    rw [qj_ (by lia),Bf] at hrl;obtain⟨_,rvs,e,hrl10,hri⟩:=dd_ hrl;cases e;have hrs:∀r∈spR g (cnt x),r.length=g+1/\r.sum=cnt x:=fun r hr=>hV_ hr;generalize spR g (cnt x)=rs at hri rok hrs⊢;have rlen:rvs.length=rs.length:=by rw [hri.length,A2]
    have hk10:=s10 _ _ hk9;have hf10:=s10 _ _ hf9;have rlf:rl≠f:=by rintro rfl;rw [hf9] at nrl;cases nrl
    have l0f:l0≠f:=by rintro rfl;rw [hl9] at hf9;cases hf9
    refine⟨rl,rfl,⟨_,SqL.of hrl10⟩,b0_ (xs:=rvs) (fun m σ H11=>(∃v6 v7,σ=[some (.int d),some (.ref wa),some (.ref kd),some (.ref ya),some (.ref f),some (.ref b),v6,v7])/\ak_ H H11/\H11 kd=some (.frz o (.dT (c5_ D)))/\H11 l0=some (.lst lvs)/\cL_ H10 H11/\H11 rl=some (.lst rvs)/\H11 f=some (.dT (c5_ (inP t cv p (rs.take m) ac)))) ⟨⟨_,_,rfl⟩,s9.trans s10,hk10,s10 _ _ hl9,cL_.of_same (ak_.refl H10),hrl10,hf10⟩ (fun m σ H11 _ h=>SqL.of h.2.2.2.2.2.1) ?_ ?_⟩
    .rintro m z σ H11 hm ⟨⟨v6,v7,rfl⟩,s11,hk11,hl11,t11,hrl11,hf11⟩;obtain⟨dd,hdd,hz⟩:=hri.of_get hm;rw [A6] at hdd;obtain⟨r,hr',rfl⟩:=A4.mp hdd;obtain⟨q,u6,rfl,hq,hu6⟩:=oE_ (iM_ t11 hz);obtain⟨ua,rfl,hua⟩:=g0_ hu6;obtain⟨r1,r2⟩:=hrs r (AX hr');have hua':H11 ua=some (.tup ((dZ_ (iv_ t p r)).map kV)):=by rw [eQ_];exact hua
     have hb11:H11 b=some (.tup ((dZ_ t).map kV)):=by rw [eQ_];exact t11 _ _ (s10 _ _ hb)
     have tabm:=(oX_ (v:=cv) kt (fun _=>0) (rs:=rs.take m) (fun r hr=>rok r (List.mem_of_mem_take hr)) tabac).1;refine⟨q,_,rfl,SqT.of hq,rfl,_,_,rfl,_,_,rfl,rfl, ?_⟩;refine⟨_,rfl,f,rfl, .inr ⟨_, .inl hf11⟩,_,rfl,_,j7_.t hf11 hua', ?_⟩;rw [mj_];refine⟨_,rfl,_,rfl,kd, .int cv,rfl, .inr ⟨c5_ D,dZ_ t,b, .inr ⟨o,hk11⟩,rfl,hb11,(oa_ tab.nd hDm).symm⟩,_,rfl,_,_,rfl,rfl, .inr (p5_ k3 ⟨r1,r2⟩ k26 (by lia) a3),_,_,rfl,rfl,_,rfl,_,rfl,f,_,rfl,pE_.t hf11 hua' ?_, ?_⟩
     .rw [fN_];exact oN_ (tabm.size d5 cle)
     .rw [show inP t cv p (rs.take (m+1)) ac=pD_ (inP t cv p (rs.take m) ac) (iv_ t p r) (cv*fr_ t p r) from hn_ _ _ rs m r hr'];rw [fM_];exact⟨⟨_,_,rfl⟩,s11.put nfH,by rw [aj_ fkd.symm];exact hk11,by rw [aj_ l0f];exact hl11,t11.trans (mi_ hf11),by rw [aj_ rlf];exact hrl11,ae_⟩
    .rintro σ H11 ⟨⟨v6,v7,rfl⟩,s11,hk11,hl11,t11,hrl11,hf11⟩;rw [rlen,AZ] at hf11;exact⟨⟨_,_,_,rfl⟩,s11,hk11,hl11,(t9.trans (cL_.of_same s10)).trans t11,hf11⟩
   .rintro σ H9 ⟨⟨v5,v6,v7,rfl⟩,s9,hk9,hl9,t9,hf9⟩;rw [fN_,AZ] at hf9;refine⟨_,rfl,⟨f,_,⟨_,_,_,_,_,rfl⟩,hf9,tab', ?_,nfH⟩,s9,hl9,t9⟩;rw [sum',hsum];simp [d7_]
  .rintro σ H6 ⟨⟨kd,D,⟨v3,v4,v5,v6,v7,rfl⟩,hkd6,tab,hsum,nkd⟩,s6,hl6,t6⟩;refine⟨_,rfl,kd,c5_ D,D.map (·.2),rfl, .inl hkd6,km_ D, ?_⟩;rw [llen,List.drop_length] at hsum;have:(D.map (·.2)).sum=tot:=by rw [<-ml_,<-hsum];rfl
   rw [this];exact kk H6 s6
theorem mF_:FnOk P w K mg base CX0 1 T.f_worth T.d_worth ["drawing"] (oi_ K):=by
 refine T.F_worth.ok d9_ (fun vs H Q E h=> ?_) (fun cdv A outer s H vs Q E hr h=> ?_)
 .obtain⟨_,_,_,rfl,_⟩:=h;rfl
 .obtain⟨dv,ps,d,rfl,hd,hok,kk⟩:=h;refine⟨_,(af_ (as_ (i:=1) d9_.nd rfl (by trivial) ac_)
   (af_ (bd_ AS rfl (a9_ (pv 0)) (al_ (i:=2) d9_.nd rfl (by trivial)) (ag_ (iL_ (i:=1) d9_.nd rfl (by trivial) (ai_ iR_ (aU_ bc_ (pv 2) ac_ (fun _ _=>rfl)) ac_) oT_)))
   (ag_ (ap_ (pv 1))))), ?_⟩
  obtain⟨da,dvs,rfl,hda,hdi⟩:=dd_ hd;have dlen:dvs.length=ps.length:=by rw [hdi.length,A2]
  refine⟨_,rfl,da,rfl,⟨_,SqL.of hda⟩,b0_ (xs:=dvs) (fun i σ H2=>(∃v2,σ=[some (.ref da),some (.int (dQ_ (ps.take i))),v2])/\H2=H) ⟨⟨none,rfl⟩,rfl⟩ (fun i σ H2 _ h=>by rw [h.2];exact SqL.of hda) ?_ ?_⟩
  .rintro i x σ H2 hi ⟨⟨v2,rfl⟩,rfl⟩;obtain⟨dd,hdd,hy⟩:=hdi.of_get hi;rw [A6] at hdd;obtain⟨p,hp',rfl⟩:=A4.mp hdd;obtain⟨_,w1,w2⟩:=hok p (AX hp');have b1:p.2.2.natAbs<2^64:=by lia
   have b2:p.2.2^(2:Int).toNat<2^64:=by
    show p.2.2^2<2^64;have:p.2.2*p.2.2<=2^20*2^20:=Int.mul_le_mul w2 w2 (by lia) (by decide);rw [Cc,Cc,Int.pow_zero,Int.one_mul];lia
   have b3: -(2^64)<p.2.2^(2:Int).toNat:=by
    show _<p.2.2^2;have h0:0<=p.2.2*p.2.2:=Int.mul_nonneg (by lia) (by lia);have h1:p.2.2^2=p.2.2*p.2.2:=by rw [Cc,Cc,Int.pow_zero,Int.one_mul]
    rw [h1];lia
   refine⟨_,rfl,_,rfl,_,2,_,hy,rfl,rfl,fun u hu=> ?_⟩;rw [ee_ hu];refine⟨_,_,rfl,rfl,⟨by decide,by decide,b1⟩,_,_,rfl,rfl, .inr ⟨b3,b2⟩,⟨some x, ?_⟩,rfl⟩;rw [AM,hp'];unfold dQ_;rw [List.foldl_append];rfl
  .rintro σ H2 ⟨⟨v2,rfl⟩,rfl⟩;rw [dlen,AZ];exact⟨_,rfl,kk⟩
theorem cl_:FnOk P w K mg base CX0 1 T.f_length T.d_length ["template"] (rw_ K):=by
 refine T.F_length.ok kC_ (fun vs H Q E h=> ?_) (fun cdv A outer s H vs Q E hr h=> ?_)
 .obtain⟨_,_,rfl,_⟩:=h;rfl
 .obtain⟨v,ps,rfl,hv,hne,hl,kk⟩:=h;refine⟨_,(ag_ (ap_ (aB_ (hx_ rfl) (by rfl) T.n_max boot_max (aa_ (cb_ (XN:=["template"]) (sc:=ab_ cs_) (N:=["lift"]) (own:=1) (js:=[]) rfl (by ac_nf) rfl rfl (a9_ (pv 0)) (fun _ _ _ _=>(al_ (i:=0) (show List.Nodup (["lift"]:List Str) by ac_nf) rfl (Or.inl rfl) (.inr rfl))) (a1_ (by decide)) (fun _ _ _ _=>bO_) (fun _ _ _ _=>(aU_ bc_ (pv 0) ac_ (fun _ _=>rfl)))) ad_)))), ?_⟩;obtain⟨da,dvs,rfl,hda,hdi⟩:=dd_ hv;have dlen:dvs.length=ps.length:=by rw [hdi.length,A2]
  refine⟨_,rfl,da,rfl,⟨_,SqL.of hda⟩,fun acc na=> ?_⟩;refine bH_ (xs:=dvs) (own:=1) (js:=[]) (fun j H4=>ak_ H H4/\H4 acc=some (.lst (((ps.take j).map (·.2.1)).map V.int))) ⟨ak_.new na,ae_⟩ (fun j H4 _ h=>SqL.of (h.1 _ _ hda)) ?_ ?_ a2_ bP_ ?_
  .rintro j x H4 hj ⟨s4,hacc⟩;obtain⟨dd,hdd,hy⟩:=hdi.of_get hj;rw [A6] at hdd;obtain⟨p,hp',rfl⟩:=A4.mp hdd;refine nh_ ?_;refine⟨_,rfl,_,1,_,hy.mono s4,rfl,rfl,fun u hu=> ?_⟩;rw [ee_ hu];refine⟨acc,_,_,rfl,rfl,hacc,ar_ ?_,s4.put na, ?_⟩
   .rw [A2,A2,Af];lia
   .rw [ae_,AM,hp',AL,AL];rfl
  .rintro H4 ⟨s4,hacc⟩;rw [dlen,AZ] at hacc;exact⟨acc,_,rfl,SqL.of hacc,by rw [A2];exact List.length_pos_iff.mpr hne,kk H4 s4⟩
  .rintro σ H R R' k ⟨v1,e1,xs,i,d,h1,e2,e3,h⟩;exact⟨v1,e1,xs,i,d,h1,e2,e3,fun u hu=>k _ _ (h u hu)⟩
theorem f3_:FnOk P w K mg base CX0 2 T.f_long_lifts T.d_long_lifts ["k"] (pW_ K):=by
 refine T.F_long_lifts.ok bX_ (fun vs H Q E h=> ?_) (fun cdv A outer s H vs Q E hr h=> ?_)
 .obtain⟨_,rfl,_⟩:=h;rfl
 .obtain⟨k,rfl,k3,kk⟩:=h;refine⟨_,(af_ (as_ (i:=1) bX_.nd rfl (by trivial) (cf_ ad_))
   (af_ (bd_ AS rfl (dj_ (by rfl) T.n_range (aa_ (ai_ aE_ (pv 0) ac_) ad_)) (al_ (i:=2) bX_.nd rfl (by trivial)) (ag_ (bd_ AS rfl (bQ_ (by rfl) T.n_range (aa_ (ai_ aE_ (pv 2) ac_) (aa_ (ai_ aE_ (pv 0) ac_) ad_))) (al_ (i:=3) bX_.nd rfl (by trivial)) (ag_ (bM_ (jN_ BR PySem.F.slot_list_extend PySem.F.type_list_extend g3_ (pv 1) (aa_ (cb_ (XN:=["k","found","i","j"]) (sc:=ab_ bi_) (N:=["w","k","i","j"]) (own:=1) (js:=[0,2,3]) rfl (by ac_nf) rfl rfl (bQ_ (by rfl) T.n_range (aa_ ac_ (aa_ (ai_ aE_ (pv 0) ac_) ad_))) (fun _ _ _ _=>(al_ (i:=0) (show List.Nodup (["w","k","i","j"]:List Str) by ac_nf) rfl (Or.inl rfl) (.inr rfl))) (a1_ (by decide)) (fun _ _ _ _=>(eb_ (fX_ h6_ h6_ ac_ (ah_ (h8_ T) (hr.mono (by decide)) (by rfl) T.m_lost T.F_lost.kp T.B_lost .nil au_ (aa_ (ce_ (aa_ (pv 2) (aa_ (pv 3) (aa_ (pv 0) ad_)))) ad_)) (pv 1)))) (fun _ _ _ _=>(ce_ (aa_ (pv 2) (aa_ (pv 3) (aa_ (pv 0) ad_)))))) ad_)))))))
   (ag_ (ap_ (pv 1))))), ?_⟩
  refine⟨AT _,fun fo H1 n1 s1 h1=> ?_⟩;refine⟨_,rfl,_,_,rfl,rfl,_,rfl,by lia,by lia, ?_⟩;rw [show((k:Int)+1).toNat=k+1 by lia];refine bT_ (lo:=0) (n:=k+1) (fun i σ H2=>(∃v2 v3,σ=[some (.int k),some (.ref fo),v2,v3])/\ak_ H H2/\∃vs,H2 fo=some (.lst vs)/\Iss H2 ((cn_ k i).map lf) vs) ⟨⟨none,none,rfl⟩,s1,[],h1,ax_⟩ ?_ ?_
  .rintro i σ H2 hi ⟨⟨v2,v3,rfl⟩,s2,vs2,hfo2,his2⟩;rw [Int.zero_add];refine⟨_,rfl,_,_,rfl,rfl,_,rfl,_,_,rfl,rfl,_,_,rfl,⟨by lia,by lia,by lia,by lia⟩, ?_⟩;rw [show((k:Int)+2-((i:Int)+1)).toNat=k+1-i by lia];refine bT_ (lo:=(i:Int)+1) (n:=k+1-i) (fun j σ H3=>(∃v3,σ=[some (.int k),some (.ref fo),some (.int i),v3])/\ak_ H H3/\∃vs,H3 fo=some (.lst vs)/\Iss H3 ((cn_ k i++eN_ i k j).map lf) vs) ⟨⟨v3,rfl⟩,s2,vs2,hfo2,by simpa [eN_] using his2⟩ ?_ ?_
   .rintro j σ H3 hj ⟨⟨v3,rfl⟩,s3,vs3,hfo3,his3⟩;have vl:vs3.length<=200:=by
     rw [his3.length,A2,AO];have a:=g8_ k i;have b:=eM_ i k j;have c1:(k+1)*(k+1)<=4*4:=Bq (by lia) (by lia);have c:i*((k+1)*(k+1))<=4*(4*4):=Bq (by lia) c1;have d:j*(k+1)<=4*4:=Bq (by lia) (by lia);lia
    refine⟨_,rfl, .inl ⟨rfl,_,SqL.of hfo3⟩,_,rfl,_,_,rfl,rfl,1,_,rfl,⟨by decide,by decide,by lia,by lia⟩,fun acc na=> ?_⟩;rw [show((k:Int)+2-1).toNat=k+1 by lia];refine cR_ (lo:=1) (n:=k+1) (own:=1) (js:=[0,2,3]) (fun m H4=>ak_ H3 H4/\∃vs,H4 acc=some (.lst vs)/\Iss H4 ((g7_ (i:Int) ((i:Int)+1+(j:Int)) k m).map lf) vs) ⟨ak_.new na,[],ae_,ax_⟩ ?_ ?_ a2_ ?_ ?_
    .rintro m H4 hm ⟨s4,vs4,hacc,hi4⟩;have v4:vs4.length<=10:=by
      rw [hi4.length,A2];have:=eL_ (i:Int) ((i:Int)+1+(j:Int)) k m;lia
     refine⟨_,rfl,_,rfl,_,rfl,(by show 3<=sizeLine;decide),fun t H5 nt s5 ht=>⟨.ref t,((i:Int),(i:Int)+1+(j:Int),1+(m:Int)),rfl,jV_ ht,⟨?_, ?_, ?_, ?_⟩,_,_,rfl,rfl,_,rfl,eS_ (fun c1=>⟨_,rfl,_,_,rfl,rfl,_,rfl,eS_ (fun c2=> ?_) (fun c2=> ?_)⟩) (fun c1=>⟨false,rfl,d0_ ?_⟩)⟩⟩
     .show 0<=(i:Int)+1+(j:Int)-(i:Int);lia
     .show(i:Int)+1+(j:Int)-(i:Int)<=10;lia
     .show 1<=1+(m:Int);lia
     .show 1+(m:Int)<=20;lia
     .refine⟨_,rfl,_,rfl,_,rfl,(by show 3<=sizeLine;decide),fun t2 H6 nt2 s6 ht2=>⟨acc,vs4,_,rfl,rfl,s6 _ _ (s5 _ _ hacc),ar_ (by lia),(s4.trans (s5.trans s6)).put na,_,ae_, ?_⟩⟩;rw [dM_,A9 ⟨c1,c2⟩];refine eT_ (cL_.upd (s6 _ _ (s5 _ _ hacc))) ?_;rw [AL];exact(hi4.mono (s5.trans s6)).append (az_ (jV_ ht2) ax_)
     .refine⟨s4.trans s5,vs4,s5 _ _ hacc, ?_⟩;rw [dM_,A7 fun z=>c2 z.2,C1];exact hi4.mono s5
     .refine⟨s4.trans s5,vs4,s5 _ _ hacc, ?_⟩;rw [dM_,A7 fun z=>c1 z.1,C1];exact hi4.mono s5
    .rintro H4 ⟨s4,vs4,hacc,hi4⟩;have v4:vs4.length<=10:=by
      rw [hi4.length,A2];have:=eL_ (i:Int) ((i:Int)+1+(j:Int)) k (k+1);lia
     refine⟨fo,acc,vs3,vs4,rfl,rfl,s4 _ _ hfo3,hacc,Az (ar_ (by lia)),⟨_,rfl⟩,(s3.trans s4).put n1,_,ae_, ?_⟩;have ej:eN_ i k (j+1)=eN_ i k j++g7_ (i:Int) ((i:Int)+1+(j:Int)) k (k+1):=by unfold eN_;rw [bl_]
     rw [ej,<-BX];refine eT_ (cL_.upd (s4 _ _ hfo3)) ?_;rw [AL];exact(his3.mono s4).append hi4
    .rintro σ H R R' k' ⟨v1,e1,v2,e2,v3,e3,z,h⟩;refine⟨v1,e1,v2,e2,v3,e3,z,fun p H2 np s2 hp=> ?_⟩;obtain⟨v4,q,e4,h1,h2,i1,j1,e5,e6,b,e7,h⟩:=h p H2 np s2 hp;refine⟨v4,q,e4,h1,h2,i1,j1,e5,e6,b,e7, ?_⟩;cases b with
     |true=>
      obtain⟨v5,e8,i2,j2,e9,e10,b2,e11,h⟩:=h;exact⟨v5,e8,i2,j2,e9,e10,b2,e11,k' _ _ h⟩
     |false=>
      obtain⟨b2,e11,h⟩:=h;exact⟨b2,e11,k' _ _ h⟩
    .rintro σ H R R' k' ⟨v1,e1,v2,e2,v3,e3,z,h⟩;exact⟨v1,e1,v2,e2,v3,e3,z,fun p H2 np s2 hp=>k' _ _ (h p H2 np s2 hp)⟩
   .rintro σ H3 ⟨⟨v3,rfl⟩,s3,vs3,hfo3,his3⟩;refine⟨⟨_,_,rfl⟩,s3,vs3,hfo3, ?_⟩;have ei:cn_ k (i+1)=cn_ k i++eN_ i k (k+1-i):=by unfold cn_;rw [bl_]
    rw [ei];exact his3
  .rintro σ H2 ⟨⟨v2,v3,rfl⟩,s2,vs2,hfo2,his2⟩;exact⟨_,rfl,kk fo H2 s2 n1 (fg_ hfo2 his2)⟩
theorem gY_:∀n:Nat,FnOk P w K mg base CX0 (n+1) T.f_losing T.d_losing ["lifts","k"] (ru_ n K)
 |0=>⟨fun vs H Q E h=>by obtain⟨_,_,_,_,_,_,h,h',_⟩:=h;lia,fun A outer s H args us vs Q E _ _ _ _ h=>by obtain⟨_,_,_,_,_,_,h,h',_⟩:=h;lia⟩
 |n+1=>by
  have ih:=gY_ n;refine T.F_losing.ok cD_ (fun vs H Q E h=> ?_) (fun cdv A outer s H vs Q E hr h=> ?_)
  .obtain⟨_,_,_,rfl,_⟩:=h;rfl
  .obtain⟨v,ls,k,rfl,hv,hok,k0,k1,hL,hl,hn,kk⟩:=h;refine⟨_,(af_ (b5_ (aA_ eE_ (pv 1) ac_ (aH_ _)) (ag_ (ap_ (cf_ (aa_ (cf_ ad_) ad_)))) aP_)
   (af_ (as_ (i:=2) cD_.nd rfl (by trivial) (cf_ ad_))
   (af_ (bd_ AS rfl (f1_ (by rfl) T.n_enumerate (pv 0)) (dV_ rfl (aG_ (al_ (i:=3) cD_.nd rfl (by trivial)) (aG_ (al_ (i:=4) cD_.nd rfl (by trivial)) cu_))) (ag_ (b5_ (aA_ h6_ (ah_ (h8_ T) (hr.mono (by lia)) (by rfl) T.m_lost T.F_lost.kp T.B_lost .nil au_ (aa_ (pv 4) ad_)) (pv 1) (aH_ _)) (ag_ (bd_ AS rfl (a9_ (ah_ ih hr (by rfl) T.m_losing T.F_losing.kp T.B_losing .nil au_ (aa_ (ec_ ky_ (pv 0) (fY_ (pv 3)) fZ_) (aa_ (ai_ aW_ (pv 1) (ah_ (h8_ T) (hr.mono (by lia)) (by rfl) T.m_lost T.F_lost.kp T.B_lost .nil au_ (aa_ (pv 4) ad_))) ad_)))) (al_ (i:=5) cD_.nd rfl (by trivial)) (ag_ (bM_ (jN_ BR PySem.F.slot_list_append PySem.F.type_list_append dp_ (pv 2) (aa_ (ai_ oC_ (cf_ (aa_ (pv 4) ad_)) (pv 5)) ad_)))))) aP_)))
   (ag_ (ap_ (pv 2)))))), ?_⟩
   obtain⟨da,dvs,rfl,hda,hdi⟩:=dd_ hv;have dlen:dvs.length=ls.length:=by rw [hdi.length,A2]
   rw [gf_] at hL kk;refine⟨_,rfl,rfl,_,rfl,lA_ (fun hz=> ?_) (fun hz=> ?_)⟩
   .rw [A9 hz] at kk;refine⟨AT _,fun e0 H1 ne s1 he=>⟨(by show 1<=sizeLine;decide),fun fo H2 nf s2 hfo=> ?_⟩⟩;exact kk fo H2 (s1.trans s2) (s1.free nf) (fg_ (by rw [fw_ (s1.free nf)];exact hfo) (az_ (fg_ (vs:=[]) (by rw [fw_ ne];exact s2 _ _ he) ax_) ax_))
   rw [A7 hz] at hL kk;refine⟨AT _,fun fo H2 nfH s02 hfo=> ?_⟩;have tot:∀i:Nat,i<ls.length->((List.range i).flatMap (jR_ n ls k)).length+(jR_ n ls k i).length<=1000:=fun i hi=>by
    have:=h3_ (jR_ n ls k) hi;lia
   refine⟨_,rfl,da,rfl,⟨_,SqL.of (s02 _ _ hda)⟩,eg_ (xs:=dvs) (fun i σ H3=>(∃v3 v4 v5,σ=[some (.ref da),some (.int k),some (.ref fo),v3,v4,v5])/\ak_ H H3/\Acc H H3 fo (((List.range i).flatMap (jR_ n ls k)).map lfs)) ⟨⟨none,none,none,rfl⟩,s02,Acc.start hfo⟩ (fun i σ H3 _ h=>SqL.of (h.2.1 _ _ hda)) ?_ ?_⟩
   .rintro i y σ H3 pa hi ⟨⟨v3,v4,v5,rfl⟩,s3,hacc⟩ np;obtain⟨dd,hdd,hy⟩:=hdi.of_get hi;rw [A6] at hdd;obtain⟨p,hp',rfl⟩:=A4.mp hdd;have hil:i<ls.length:=(AC.mp hp').1;obtain⟨pL,pl1⟩:=hok p (AX hp');have tt:=tot i hil;have s34:ak_ H3 (upd H3 pa (.tup [.int i,y])):=ak_.new np;have hacc4:=hacc.mono s34;have stay:jR_ n ls k i=[]->Acc H (upd H3 pa (.tup [.int i,y])) fo (((List.range (i+1)).flatMap (jR_ n ls k)).map lfs):=fun e=>by
     rw [bl_,e,C1];exact hacc4
    have hlf:Is (upd H3 pa (.tup [.int i,y])) (lf p) y:=(hy.mono s3).mono s34;refine⟨pa,_,rfl,SqT.of ae_,rfl,_,_,rfl,_,_,rfl,rfl, ?_⟩;generalize upd H3 pa (.tup [.int i,y])=H4 at s34 hacc4 stay hlf⊢;have s4:ak_ H H4:=s3.trans s34;refine⟨_,rfl,y,p,rfl,hlf,pL,_,rfl,_,_,rfl,rfl,_,rfl,eS_ (fun c2=> ?_) (fun c2=> ?_)⟩
    .have eG:jR_ n ls k i=(gh_ n (ls.drop i) (k-b7_ p)).map (p:: ·):=by
      unfold jR_;rw [hp'];exact A9 c2
     rw [eG,A2] at tt;refine⟨_,rfl,_,rfl,i,rfl,da,_,rfl,SqL.of (s4 _ _ hda), ?_⟩;rw [hq_ (by lia)];intro l2 n2;have s45:ak_ H4 (upd H4 l2 (.lst (dvs.drop i))):=ak_.new n2;have hl2:(upd H4 l2 (.lst (dvs.drop i))) l2=some (.lst (dvs.drop i)):=ae_;generalize upd H4 l2 (.lst (dvs.drop i))=H5 at s45 hl2⊢;have s5:=s4.trans s45;have hdr:Is H5 (lfs (ls.drop i)) (.ref l2):=fg_ hl2 (by rw [List.map_drop];exact(hdi.drop i).mono s5);refine⟨_,rfl,_,rfl,y,p,rfl,hlf.mono s45,pL,_,_,rfl,rfl, ?_⟩;refine⟨.ref l2,ls.drop i,k-b7_ p,rfl,hdr,fun q hq=>hok q (Co hq),by lia,by lia,by lia,by rw [List.length_drop];lia,by lia,fun rl H6 s6 nrl hrl=> ?_⟩;obtain⟨vs5,hfo5,hi5⟩:=hacc4.mono s45;have hfo6:H6 fo=some (.lst vs5):=s6 _ _ hfo5;obtain⟨_,rvs,e,hrl',hri⟩:=dd_ hrl;cases e;have hrl6:H6 rl=some (.lst rvs):=c9_ _ _ hrl';have rlfo:rl≠fo:=by rintro rfl;rw [hfo5] at nrl;cases nrl
     have rlen:rvs.length=(gh_ n (ls.drop i) (k-b7_ p)).length:=by rw [hri.length,A2]
     have hriH:Iss (hid H6 fo) ((gh_ n (ls.drop i) (k-b7_ p)).map lfs) rvs:=(hri.mono (ny_ (ak_.refl H5) hfo5)).mono (gr_ c9_);have s56:=s5.trans s6;refine⟨rl,rfl,⟨_,SqL.of hrl6⟩,b0_ (xs:=rvs) (fun j σ H7=>(∃v5,σ=[some (.ref da),some (.int k),some (.ref fo),some (.int i),some y,v5])/\ak_ H H7/\But fo H6 H7/\Acc H H7 fo (((List.range i).flatMap (jR_ n ls k)++((gh_ n (ls.drop i) (k-b7_ p)).take j).map (p:: ·)).map lfs)) ⟨⟨_,rfl⟩,s56,fun _ _ e _=>e,by simpa using (hacc4.mono s45).mono s6⟩ (fun j σ H7 _ h=>SqL.of (h.2.2.1 _ _ hrl6 rlfo)) ?_ ?_⟩
     .rintro j x σ H7 hj ⟨⟨v5,rfl⟩,s7,but7,vs7,hfo7,hi7⟩;obtain⟨dd,hdd,hx⟩:=hriH.of_get hj;rw [A6] at hdd;obtain⟨r,hr',rfl⟩:=A4.mp hdd;have hjl:j<(gh_ n (ls.drop i) (k-b7_ p)).length:=(AC.mp hr').1;have hx7:Is H7 (lfs r) x:=hx.mono (oY_ but7);have ritem:=(gg_ (fun q hq=>(hok q (Co hq)).2) (AX hr')).1;have vl:vs7.length<=999:=by
       rw [hi7.length,A2,AO,A2,Af];lia
      have hy7:Is H7 (lf p) y:=hy.mono s7;refine⟨_,rfl, .inl ⟨rfl,_,SqL.of hfo7⟩,_,rfl,(by show 1<=sizeLine;decide),fun q1 H8 n8 s8 h8=>⟨_,rfl,[lf p],r.map lf,fg_ h8 (az_ (hy7.mono s8) ax_),hx7.mono s8,Az (ar_ (by rw [A2];show 1+r.length<=1000;lia)),fun q2 H9 n9 s9 h9=> ?_⟩⟩;have s79:=s8.trans s9;refine⟨fo,vs7,_,rfl,rfl,s79 _ _ hfo7,ar_ (by lia),⟨_,rfl⟩,(s7.trans s79).put nfH,but7.trans ((But.of_same s79).trans But.upd), ?_⟩;rw [AM,hr'];have:=Acc.add s7 s79 hfo7 hi7 (qq_ (ps:=p::r) s79 (s8.free n9) h9);simpa using this
     .rintro σ H7 ⟨⟨v5,rfl⟩,s7,_,hacc7⟩;refine⟨⟨_,_,_,rfl⟩,s7, ?_⟩;rw [rlen,AZ,<-eG,<-bl_] at hacc7;exact hacc7
    .refine⟨⟨_,_,_,rfl⟩,s4,stay ?_⟩;unfold jR_;rw [hp'];exact A7 c2
   .rintro σ H3 ⟨⟨v3,v4,v5,rfl⟩,s3,hacc⟩;rw [dlen] at hacc;exact⟨_,rfl,kk fo H3 s3 nfH (hacc.is nfH)⟩
theorem fd_:FnOk P w K mg base CX0 1 T.f_lies_within T.d_lies_within ["number","lifts"] (rv_ K):=by
 refine T.F_lies_within.ok fa_ (fun vs H Q E h=> ?_) (fun cdv A outer s H vs Q E hr h=> ?_)
 .obtain⟨_,_,_,rfl,_⟩:=h;rfl
 .obtain⟨v,ps,n,rfl,hv,hl,kk⟩:=h;refine⟨_,(ag_ (ap_ (aB_ (nc_ rfl) (by rfl) T.n_any boot_any (aa_ (cb_ (XN:=["number","lifts"]) (sc:=ab_ aX_) (N:=["lift","number"]) (own:=1) (js:=[0]) rfl (by ac_nf) rfl rfl (a9_ (pv 1)) (fun _ _ _ _=>(al_ (i:=0) (show List.Nodup (["lift","number"]:List Str) by ac_nf) rfl (Or.inl rfl) (.inr rfl))) (a1_ (by decide)) (fun _ _ _ _=>bO_) (fun _ _ _ _=>(mC_ gU_ gU_ (aU_ bc_ (pv 0) ac_ (fun _ _=>rfl)) (pv 1) (aU_ bc_ (pv 0) ac_ (fun _ _=>rfl))))) ad_)))), ?_⟩;obtain⟨da,dvs,rfl,hda,hdi⟩:=dd_ hv;have dlen:dvs.length=ps.length:=by rw [hdi.length,A2]
  refine⟨_,rfl,da,rfl,⟨_,SqL.of hda⟩,fun acc na=> ?_⟩;refine bH_ (xs:=dvs) (own:=1) (js:=[0]) (fun j H4=>ak_ H H4/\H4 acc=some (.lst (((ps.take j).map fun p=>decide (p.1<n)&&decide (n<p.2.1)).map V.bl))) ⟨ak_.new na,ae_⟩ (fun j H4 _ h=>SqL.of (h.1 _ _ hda)) ?_ ?_ a2_ bP_ ?_
  .rintro j x H4 hj ⟨s4,hacc⟩;obtain⟨dd,hdd,hy⟩:=hdi.of_get hj;rw [A6] at hdd;obtain⟨p,hp',rfl⟩:=A4.mp hdd;have lenv:(((ps.take j).map fun p=>decide (p.1<n)&&decide (n<p.2.1)).map V.bl).length<=1000:=by rw [A2,A2,Af];lia
   refine nh_ ?_;refine⟨_,rfl,_,0,_,hy.mono s4,rfl,rfl,fun u hu=> ?_⟩;rw [ee_ hu];refine⟨_,rfl,_,_,rfl,rfl,_,rfl,eS_ (fun c1=> ?_) (fun c1=> ?_)⟩
   .refine⟨_,rfl,_,1,_,hy.mono s4,rfl,rfl,fun u hu=> ?_⟩;rw [ee_ hu];refine⟨_,_,rfl,rfl,acc,_,_,rfl,rfl,hacc,ar_ lenv,s4.put na, ?_⟩;rw [ae_,AM,hp',AL,AL];have c1:p.1<n:=c1;simp [c1]
   .refine⟨acc,_,_,rfl,rfl,hacc,ar_ lenv,s4.put na, ?_⟩;rw [ae_,AM,hp',AL,AL];have c1:¬p.1<n:=c1;simp [c1]
  .rintro H4 ⟨s4,hacc⟩;rw [dlen,AZ] at hacc;refine⟨acc,_,rfl,SqL.of hacc, ?_⟩;have e:(ps.map fun p=>decide (p.1<n)&&decide (n<p.2.1)).any id=oW_ n ps:=by
    unfold oW_;rw [List.any_map];rfl
   rw [e];exact kk H4 s4
  .rintro σ H R R' k ⟨v1,e1,xs,i,d,h1,e2,e3,h⟩;refine⟨v1,e1,xs,i,d,h1,e2,e3,fun u hu=> ?_⟩;obtain⟨v2,e4,i1,j1,e5,e6,b,e7,h⟩:=h u hu;refine⟨v2,e4,i1,j1,e5,e6,b,e7, ?_⟩;cases b with
   |true=>
    obtain⟨v1,e1,xs,i,d,h1,e2,e3,h⟩:=h;refine⟨v1,e1,xs,i,d,h1,e2,e3,fun u hu=> ?_⟩;obtain⟨i1,j1,e5,e6,h⟩:=h u hu;exact⟨i1,j1,e5,e6,k _ _ h⟩
   |false=>exact k _ _ h
theorem fe_:FnOk P w K mg base CX0 2 T.f_is_template T.d_is_template ["lifts"] (rz_ K):=by
 refine T.F_is_template.ok cV_ (fun vs H Q E h=> ?_) (fun cdv A outer s H vs Q E hr h=> ?_)
 .obtain⟨_,_,rfl,_⟩:=h;rfl
 .obtain⟨v,ps,rfl,hv,hl,hne,hb,kk⟩:=h;refine⟨_,(af_ (cP_ (i:=1) cV_.nd rfl (by trivial) (.inl rfl) (XN:=["lifts","between"]) (sc:=ab_ aZ_) (N:=["number","lifts"]) (own:=1) (js:=[0]) rfl (by ac_nf) rfl rfl (bQ_ (by rfl) T.n_range (aa_ ac_ (aa_ (ah_ (cl_ T) (hr.mono (by decide)) (by rfl) T.m_length T.F_length.kp T.B_length .nil au_ (aa_ (pv 0) ad_)) ad_))) (fun _ _ _ _=>(al_ (i:=0) (show List.Nodup (["number","lifts"]:List Str) by ac_nf) rfl (Or.inl rfl) (.inr rfl))) (a1_ (by decide)) (fun _ _ _ _=>bO_) (fun _ _ _ _=>(ah_ (fd_ T) (hr.mono (by decide)) (by rfl) T.m_lies_within T.F_lies_within.kp T.B_lies_within .nil au_ (aa_ (pv 0) (aa_ (pv 1) ad_)))))
   (ag_ (ap_ (iQ_ (ey_ eE_ (aU_ bc_ (aU_ mQ_ (pv 0) ac_ (fun _ _=>rfl)) ac_ (fun _ _=>rfl)) ac_ (aH_ _)) (iN_ (aB_ (nd_ rfl) (by rfl) T.n_all boot_all (aa_ (pv 1) ad_))))))), ?_⟩
  have m:cw_ ps∈ps.map (·.2.1):=iZ_ (by rw [A2];exact List.length_pos_iff.mpr hne);obtain⟨q,hq,e⟩:=Aa.mp m;have e:q.2.1=cw_ ps:=e;have hq:=hb q hq;refine⟨_,rfl,v,ps,rfl,hv,hne,hl,fun H1 s1=> ?_⟩;refine⟨1,_,rfl,⟨by decide,by decide,by lia,by lia⟩,fun acc na=> ?_⟩;rw [show(cw_ ps-1).toNat=(cw_ ps).toNat-1 by lia];refine cR_ (lo:=1) (n:=(cw_ ps).toNat-1) (own:=1) (js:=[0]) (fun i H2=>ak_ H1 H2/\i<=100/\H2 acc=some (.lst (((List.range i).map fun i:Nat=>oW_ (1+(i:Int)) ps).map V.bl))) ⟨ak_.new na,by lia,ae_⟩ ?_ ?_ a2_ bP_ ?_
  .rintro i H2 hi ⟨s2,hi',hacc⟩;refine nh_ ?_;refine⟨_,rfl,_,rfl,v,ps,_,rfl,hv.mono (s1.trans s2),hl,fun H3 s3=> ?_⟩;refine⟨acc,_,_,rfl,rfl,s3 _ _ hacc,ar_ (by rw [A2,A2,C6];lia),(s2.trans s3).put na,by lia, ?_⟩;rw [ae_,Bv,AL,AL];rfl
  .rintro H2 ⟨s2,_,hacc⟩;obtain⟨p0,r0,rfl⟩:∃p0 r0,ps=p0::r0:=by
    cases ps with
    |nil=>exact absurd rfl hne
    |cons p r=>exact⟨p,r,rfl⟩
   have hv2:=hv.mono (s1.trans s2);refine⟨_,rfl,_,0,lf p0,hv2,rfl,rU_ (j:=0) rfl rfl,fun u hu=>⟨_,0,_,hu,rfl,rfl,fun u2 hu2=> ?_⟩⟩;rw [ee_ hu2];refine⟨rfl,_,rfl,lA_ (fun c=> ?_) (fun c=> ?_)⟩
   .refine⟨_,rfl,acc,_,rfl,SqL.of hacc, ?_⟩;have e:((List.range ((cw_ (p0::r0)).toNat-1)).map fun i:Nat=>oW_ (1+(i:Int)) (p0::r0)).all id=lC_ (p0::r0):=by
     unfold lC_;have:(List.getD (p0::r0) 0 (1,0,0)).1=0:=c;rw [Ah this,Bool.true_and,List.all_map];rfl
    rw [e];exact kk H2 (s1.trans s2)
   .have e:lC_ (p0::r0)=false:=by
     unfold lC_;have:¬(List.getD (p0::r0) 0 (1,0,0)).1=0:=c;rw [AR this];rfl
    have:=kk H2 (s1.trans s2);rw [e] at this;exact this
  .rintro σ H R R' k ⟨v1,e1,v2,e2,v3,qs,n,e3,h1,h2,h⟩;exact⟨v1,e1,v2,e2,v3,qs,n,e3,h1,h2,fun H' s'=>k _ _ (h H' s')⟩
theorem gW_:FnOk P w K mg base (CX1 P w) 8 T.f_templates T.d_templates ["k"] (rq_ T.c_NoBound):=by
 refine T.F_templates.okx gM_ (fun vs H Q E h=> ?_) (fun cdv A outer s H vs Q E hr h hR hp=> ?_)
 .obtain⟨_,rfl,_⟩:=h;rfl
 .obtain⟨v,rfl,ht,kk,ke⟩:=h;refine⟨_,(af_ (bM_ (ah_ (bk_ T) (hr.mono (by decide)) (by rfl) T.m_need_between T.F_need_between.kp T.B_need_between .nil hp (aa_ (pv 0) (aa_ ac_ (aa_ ac_ ad_)))))
   (ag_ (ap_ (aB_ (fk_ hr) (by rfl) T.n_sorted boot_sorted (aa_ (cb_ (XN:=["k"]) (sc:=ab_ br_) (N:=["lifts"]) (own:=1) (js:=[]) rfl (by ac_nf) rfl rfl (a9_ (ah_ (gY_ T 4) (hr.mono (by decide)) (by rfl) T.m_losing T.F_losing.kp T.B_losing .nil au_ (aa_ (ah_ (f3_ T) (hr.mono (by decide)) (by rfl) T.m_long_lifts T.F_long_lifts.kp T.B_long_lifts .nil au_ (aa_ (pv 0) ad_)) (aa_ (pv 0) ad_)))) (fun _ _ _ _=>(al_ (i:=0) (show List.Nodup (["lifts"]:List Str) by ac_nf) rfl (Or.inl rfl) (.inr rfl))) (a1_ (by decide)) (fun _ _ _ _=>(eb_ (fs_ (ah_ (fe_ T) (hr.mono (by decide)) (by rfl) T.m_is_template T.F_is_template.kp T.B_is_template .nil au_ (aa_ (pv 0) ad_))))) (fun _ _ _ _=>(pv 0))) ad_))))), ?_⟩
  refine⟨_,rfl,v,1,3,rfl,ht,fun⟨i,ei,i1,i2⟩=> ?_,fun h=>⟨by decide,ke h⟩⟩;subst ei;obtain⟨n,rfl⟩:=Ak (show 0<=i by lia);have k2:=kk n rfl (by lia) (by lia);clear kk ke;obtain⟨b1,b2,b3,_⟩:=rb_ (k:=n) (by lia) (by lia);have hb:=b1;unfold okT at hb;simp only [AE,Au,Ao] at hb;obtain⟨⟨⟨l1,l2⟩,l3⟩,l4⟩:=hb;have lg:∀p∈cn_ n (n+1),Lok p/\1<=b7_ p:=fun p hp=>by
   have:=l1 p hp;unfold lgB at this;simp only [AE,Au] at this;exact⟨⟨by lia,by lia,by lia,by lia⟩,by lia⟩
  refine⟨_,rfl,n,rfl,by lia,fun l0 H1 s1 nl0 hl0=> ?_⟩;refine⟨_,rfl, .ref l0,cn_ n (n+1),n,rfl,hl0,lg,by lia,by lia,by lia,by lia,by decide,fun rl H2 s2 nrl hrl=> ?_⟩;have s02:=s1.trans s2;have hrl:=hrl.mono (iU_ s1);obtain⟨_,rvs,e,hrl',hri⟩:=dd_ hrl;cases e;have hrl2:H2 rl=some (.lst rvs):=c9_ _ _ hrl';have rlen:rvs.length=(gh_ 4 (cn_ n (n+1)) n).length:=by rw [hri.length,A2]
  have item:∀r∈gh_ 4 (cn_ n (n+1)) n,r≠[]/\r.length<=4/\∀p∈r,1<=p.2.1/\p.2.1<=100:=fun r hr=>by
   obtain⟨a,d⟩:=gg_ (fun q hq=>(lg q hq).2) hr;refine⟨qy_ (by lia) hr,a,fun p hp=> ?_⟩;have:=l1 p (d p hp);unfold lgB at this;simp only [AE,Au] at this;exact⟨by lia,by lia⟩
  refine⟨rl,rfl,⟨_,SqL.of hrl2⟩,fun acc na=> ?_⟩;refine bH_ (xs:=rvs) (own:=1) (js:=[]) (fun j H3=>ak_ H2 H3/\∃vs,H3 acc=some (.lst vs)/\Iss (nw H H2) ((((gh_ 4 (cn_ n (n+1)) n).take j).filter lC_).map lfs) vs) ⟨ak_.new na,[],ae_,ax_⟩ (fun j H3 _ h=>SqL.of (h.1 _ _ hrl2)) ?_ ?_ a2_ ?_ ?_
  .rintro j y H3 hj ⟨s3,vs,hacc,hi⟩;obtain⟨dd,hdd,hy⟩:=hri.of_get hj;rw [A6] at hdd;obtain⟨r,hr',rfl⟩:=A4.mp hdd;obtain⟨r1,r2,r3⟩:=item r (AX hr');have vl:vs.length<=900:=by
    rw [hi.length,A2];refine Ai (Cg _ _) ?_;rw [Af];lia
   refine⟨_,rfl,y,r,rfl,(hy.mono c9_).mono s3,by lia,r1,r3,fun H4 s4=>⟨lC_ r,rfl, ?_⟩⟩;cases hT:lC_ r with
   |true=>
    refine ie_ ⟨_,rfl,acc,vs,_,rfl,rfl,s4 _ _ hacc,ar_ (by lia),(s3.trans s4).put na,_,ae_, ?_⟩;rw [AM,hr',Bs];have ef:(Option.toList (some r)).filter lC_=[r]:=by simp [hT]
    rw [ef,AL];exact hi.append (az_ hy ax_)
   |false=>
    refine d0_ ⟨s3.trans s4,vs,s4 _ _ hacc, ?_⟩;rw [AM,hr',Bs];have ef:(Option.toList (some r)).filter lC_=[]:=by simp [hT]
    rw [ef,C1];exact hi
  .rintro H5 ⟨s5,vs,hacc,hi⟩;rw [rlen,AZ] at hi;have hi:Iss (nw H H2) ((dU_ n).map lfs) vs:=hi;have s05:=s02.trans s5;have hv5:Iss H5 ((dU_ n).map lfs) vs:=(hi.mono c9_).mono s5;have vlen:vs.length=(dU_ n).length:=by rw [hi.length,A2]
   by_cases hlt:(dU_ n).length<2
   .refine .inl ⟨acc,vs,rfl,SqL.of hacc,by lia,fun q nq=>k2 q _ (s05.put (s05.free nq)) (s05.free nq) ?_⟩;have:sT n=dU_ n:=by unfold sT;rw [A9 hlt]
    rw [this];exact fg_ (by rw [fw_ (s05.free nq)];exact ae_) (hi.mono (f6_ (s5.trans (ak_.new nq))))
   .obtain⟨p,hp,hps,hpl⟩:=b2 hlt;refine .inr ⟨acc,vs,cD (dU_ n),p,rfl,SqL.of hacc,by lia,by lia,hps,fun r hr'=> ?_,fun i j bb hb=> ?_,by rw [vlen];exact hp,fun i hi=>by rw [vlen];exact hpl i hi,fun q nq=>k2 q _ (s05.put (s05.free nq)) (s05.free nq) ?_⟩
    .obtain⟨i,hi,rfl⟩:=Bg.mp hr';obtain⟨dd,hdd,hy⟩:=hv5.of_get (A1 hi);rw [A6] at hdd;obtain⟨w,_,rfl⟩:=A4.mp hdd;obtain⟨a,ys,e1,e2,_⟩:=dd_ hy;exact⟨a,ys,e1,SqL.of e2⟩
    .unfold cD at hb;obtain⟨w1,h1,hb⟩:=AA.mp hb;obtain⟨w2,h2,rfl⟩:=A4.mp hb;obtain⟨x,hx,hx'⟩:=hv5.get (j:=i) (x:=lfs w1) (by rw [A6,h1];rfl);obtain⟨y,hy,hy'⟩:=hv5.get (j:=j) (x:=lfs w2) (by rw [A6,h2];rfl);exact⟨x,y,hx,hy,pm_ hx' hy'⟩
    .have:sT n=p.toList.map fun i=>(dU_ n).getD i []:=by
      unfold sT oT;rw [A7 hlt,hp];rfl
     rw [this];exact fg_ (by rw [fw_ (s05.free nq)];exact ae_) ((jh_ hi p.toList hpl).mono (f6_ (s5.trans (ak_.new nq))))
  .rintro σ H R R' k' ⟨v1,e1,v2,ps,e2,h1,h2,h3,h4,h⟩;refine⟨v1,e1,v2,ps,e2,h1,h2,h3,h4,fun H' s'=> ?_⟩;obtain⟨b,e3,h⟩:=h H' s';exact⟨b,e3,k' _ _ h⟩
  .rintro σ H R R' k' ⟨v1,e1,h⟩;exact⟨v1,e1,k' _ _ h⟩
theorem k6_:FnOk P w K mg base CX0 1 T.f_load T.d_load ["template","j"] (pX_ K):=by
 refine T.F_load.ok or_ (fun vs H Q E h=> ?_) (fun cdv A outer s H vs Q E hr h=> ?_)
 .obtain⟨_,_,_,rfl,_⟩:=h;rfl
 .obtain⟨v,ps,j,rfl,hv,hl,kk⟩:=h;refine⟨_,(ag_ (ap_ (aB_ (na_ rfl) (by rfl) T.n_sum boot_sum (aa_ (cb_ (XN:=["template","j"]) (sc:=ab_ et_) (N:=["lift","j"]) (own:=1) (js:=[1]) rfl (by ac_nf) rfl rfl (a9_ (pv 0)) (fun _ _ _ _=>(al_ (i:=0) (show List.Nodup (["lift","j"]:List Str) by ac_nf) rfl (Or.inl rfl) (.inr rfl))) (a1_ (by decide)) (fun _ _ _ _=>(eb_ (fX_ gU_ h6_ (aU_ bc_ (pv 0) ac_ (fun _ _=>rfl)) (pv 1) (aU_ bc_ (pv 0) ac_ (fun _ _=>rfl))))) (fun _ _ _ _=>(aU_ bc_ (pv 0) ac_ (fun _ _=>rfl)))) ad_)))), ?_⟩;obtain⟨da,dvs,rfl,hda,hdi⟩:=dd_ hv;have dlen:dvs.length=ps.length:=by rw [hdi.length,A2]
  refine⟨_,rfl,da,rfl,⟨_,SqL.of hda⟩,fun acc na=> ?_⟩;refine bH_ (xs:=dvs) (own:=1) (js:=[1]) (fun i H4=>ak_ H H4/\H4 acc=some (.lst ((((ps.take i).filter (inF j)).map (·.2.2)).map V.int))) ⟨ak_.new na,ae_⟩ (fun i H4 _ h=>SqL.of (h.1 _ _ hda)) ?_ ?_ a2_ ?_ ?_
  .rintro i x H4 hj ⟨s4,hacc⟩;obtain⟨dd,hdd,hy⟩:=hdi.of_get hj;rw [A6] at hdd;obtain⟨p,hp',rfl⟩:=A4.mp hdd;have hlf:Is H4 (lf p) x:=hy.mono s4;have stay:inF j p=false->H4 acc=some (.lst ((((ps.take (i+1)).filter (inF j)).map (·.2.2)).map V.int)):=fun e=>by
    rw [hacc,AM,hp',Bs,AL,AL];simp [e]
   refine⟨_,rfl,_,0,_,hlf,rfl,rfl,fun u hu=> ?_⟩;rw [ee_ hu];refine⟨_,rfl,_,_,rfl,rfl,_,rfl,eS_ (fun h1=> ?_) (fun h1=> ?_)⟩
   .refine⟨_,rfl,_,1,_,hlf,rfl,rfl,fun u hu=> ?_⟩;rw [ee_ hu];refine⟨_,_,rfl,rfl,_,rfl,eS_ (fun h2=> ?_) (fun h2=> ?_)⟩
    .have e:inF j p=true:=by unfold inF;rw [Ah h1,Ah h2];rfl
     refine⟨_,rfl,_,2,_,hlf,rfl,rfl,fun u hu=> ?_⟩;rw [ee_ hu];refine⟨acc,_,_,rfl,rfl,hacc,ar_ ?_,s4.put na, ?_⟩
     .rw [A2,A2];have:=Cg (inF j) (ps.take i);rw [Af] at this;lia
     .rw [ae_,AM,hp',Bs,AL,AL];simp [e]
    .exact⟨s4,stay (by unfold inF;rw [AR h2,CG])⟩
   .exact⟨false,rfl,d0_ ⟨s4,stay (by unfold inF;rw [AR h1];rfl)⟩⟩
  .rintro H4 ⟨s4,hacc⟩;rw [dlen,AZ] at hacc;exact⟨acc,_,rfl,SqL.of hacc,kk H4 s4⟩
  .rintro σ H R R' k h;obtain⟨v1,e1,xs,i,d,h1,e2,e3,h⟩:=h;refine⟨v1,e1,xs,i,d,h1,e2,e3,fun u hu=> ?_⟩;obtain⟨v2,e4,i1,j1,e5,e6,b,e7,h⟩:=h u hu;refine⟨v2,e4,i1,j1,e5,e6,b,e7, ?_⟩;cases b with
   |true=>
    obtain⟨v1,e1,xs,i,d,h1,e2,e3,h⟩:=h;refine⟨v1,e1,xs,i,d,h1,e2,e3,fun u hu=> ?_⟩;obtain⟨i1,j1,e5,e6,b,e7,h⟩:=h u hu;exact⟨i1,j1,e5,e6,b,e7,k _ _ h⟩
   |false=>
    obtain⟨b,e7,h⟩:=h;exact⟨b,e7,k _ _ h⟩
  .rintro σ H R R' k ⟨v1,e1,xs,i,d,h1,e2,e3,h⟩;exact⟨v1,e1,xs,i,d,h1,e2,e3,fun u hu=>k _ _ (h u hu)⟩
theorem c1_:FnOk P w K mg base CX0 2 T.f_least_place T.d_least_place ["template"] (om_ K):=by
 refine T.F_least_place.ok fb_ (fun vs H Q E h=> ?_) (fun cdv A outer s H vs Q E hr h=> ?_)
 .obtain⟨_,_,rfl,_⟩:=h;rfl
 .obtain⟨v,ps,rfl,hv,hok,kk⟩:=h;refine⟨_,(ag_ (ap_ (aB_ (hx_ rfl) (by rfl) T.n_max boot_max (aa_ (cb_ (XN:=["template"]) (sc:=ab_ aY_) (N:=["j","template"]) (own:=1) (js:=[0]) rfl (by ac_nf) rfl rfl (bQ_ (by rfl) T.n_range (aa_ ac_ (aa_ (ai_ aE_ (ah_ (cl_ T) (hr.mono (by decide)) (by rfl) T.m_length T.F_length.kp T.B_length .nil au_ (aa_ (pv 0) ad_)) ac_) ad_))) (fun _ _ _ _=>(al_ (i:=0) (show List.Nodup (["j","template"]:List Str) by ac_nf) rfl (Or.inl rfl) (.inr rfl))) (a1_ (by decide)) (fun _ _ _ _=>bO_) (fun _ _ _ _=>(ai_ aE_ (ai_ aW_ (ah_ (k6_ T) (hr.mono (by decide)) (by rfl) T.m_load T.F_load.kp T.B_load .nil au_ (aa_ (pv 1) (aa_ (pv 0) ad_))) (pv 0)) ac_))) ad_)))), ?_⟩;have ln:=qA_ hok;obtain⟨n,hn⟩:=Ak (show 0<=cw_ ps by lia);have hne:ps≠[]:=by obtain⟨_,_,p,hm,_⟩:=hok;rintro rfl;cases hm
  refine⟨_,rfl,v,ps,rfl,hv,hne,hok.1,fun H1 s1=> ?_⟩;rw [hn];refine⟨_,_,rfl,rfl,1,_,rfl,⟨by decide,by decide,by lia,by lia⟩,fun acc na=> ?_⟩;have en:((n:Int)+1-1).toNat=n:=by lia
  rw [en];refine cR_ (lo:=1) (n:=n) (own:=1) (js:=[0]) (fun i H2=>ak_ H1 H2/\H2 acc=some (.lst ((dX_ ps i).map V.int))) ⟨ak_.new na,ae_⟩ ?_ ?_ a2_ bP_ ?_
  .rintro i H2 hi ⟨s2,hacc⟩;refine nh_ ?_;refine⟨_,rfl,_,rfl,v,ps,_,rfl,hv.mono (s1.trans s2),hok.1,fun H3 s3=> ?_⟩;refine⟨_,rfl,_,_,rfl,rfl,_,_,rfl,rfl,acc,_,_,rfl,rfl,s3 _ _ hacc,ar_ (by rw [A2,hd_];lia),(s2.trans s3).put na, ?_⟩;rw [ae_];unfold dX_;rw [Bv,AL,AL];rfl
  .rintro H2 ⟨s2,hacc⟩;rw [hn,AU] at kk;exact⟨acc,_,rfl,SqL.of hacc,by rw [hd_];lia,kk H2 (s1.trans s2)⟩
  .rintro σ H R R' k ⟨v1,e1,v2,e2,v3,qs,j,e3,h1,h2,h⟩;refine⟨v1,e1,v2,e2,v3,qs,j,e3,h1,h2,fun H' s'=> ?_⟩;obtain⟨v4,e4,i1,j1,e5,e6,i2,j2,e7,e8,h⟩:=h H' s';exact⟨v4,e4,i1,j1,e5,e6,i2,j2,e7,e8,k _ _ h⟩
theorem h7_:FnOk P w K mg base CX0 10 T.f_words_at T.d_words_at ["template","place"] (oj_ K):=by
 refine T.F_words_at.ok c6_ (fun vs H Q E h=> ?_) (fun cdv A outer s H vs Q E hr h=> ?_)
 .obtain⟨_,_,_,rfl,_⟩:=h;rfl
 .obtain⟨v,ps,pl,rfl,hv,tp,p1,p20,kk⟩:=h;refine⟨_,(af_ (b5_ (aA_ gU_ (pv 1) (ah_ (c1_ T) (hr.mono (by decide)) (by rfl) T.m_least_place T.F_least_place.kp T.B_least_place .nil au_ (aa_ (pv 0) ad_)) (aH_ _)) (ag_ (ap_ ac_)) aP_)
   (af_ (cP_ (i:=2) c6_.nd rfl (by trivial) (.inl rfl) (XN:=["template","place","marks","j"]) (sc:=ab_ bJ_) (N:=["i","j","w"]) (own:=3) (js:=[]) rfl (by ac_nf) rfl rfl (a9_ (pv 0)) (fun _ _ _ _=>(kT_ (K:=K) rfl rfl (aG_ (al_ (i:=0) (show List.Nodup (["i","j","w"]:List Str) by ac_nf) rfl (Or.inl rfl) (.inr rfl)) (aG_ (al_ (i:=1) (show List.Nodup (["i","j","w"]:List Str) by ac_nf) rfl (Or.inl rfl) (.inr rfl)) (aG_ (al_ (i:=2) (show List.Nodup (["i","j","w"]:List Str) by ac_nf) rfl (Or.inl rfl) (.inr rfl)) cu_))))) mE_ (fun _ _ _ _=>bO_) (fun _ _ _ _=>(ce_ (aa_ (ai_ aE_ (pv 0) ac_) (aa_ (ai_ aE_ (pv 1) ac_) (aa_ (pv 2) ad_))))))
   (af_ (bd_ AS rfl (bQ_ (by rfl) T.n_range (aa_ ac_ (aa_ (ai_ aE_ (ah_ (cl_ T) (hr.mono (by decide)) (by rfl) T.m_length T.F_length.kp T.B_length .nil au_ (aa_ (pv 0) ad_)) ac_) ad_))) (al_ (i:=3) c6_.nd rfl (by trivial)) (ag_ (bM_ (jN_ BR PySem.F.slot_list_extend PySem.F.type_list_extend g3_ (pv 2) (aa_ (ai_ k3_ (cf_ (aa_ (ce_ (aa_ (pv 3) (aa_ (ai_ aE_ (pv 3) ac_) (aa_ ac_ ad_)))) ad_)) (ai_ aW_ (ai_ aW_ (ai_ aE_ (pv 1) (pv 3)) ac_) (ah_ (k6_ T) (hr.mono (by decide)) (by rfl) T.m_load T.F_load.kp T.B_load .nil au_ (aa_ (pv 0) (aa_ (pv 3) ad_))))) ad_)))))
   (ag_ (ap_ (ah_ (dm_ T) (hr.mono (by decide)) (by rfl) T.m_how_many_orders T.F_how_many_orders.kp T.B_how_many_orders .nil au_ (aa_ (ah_ (cl_ T) (hr.mono (by decide)) (by rfl) T.m_length T.F_length.kp T.B_length .nil au_ (aa_ (pv 0) ad_)) (aa_ (pv 2) ad_)))))))), ?_⟩
  have l1:=tp.l1;have l4:=tp.l4;have l3:=tp.len;obtain⟨n,hn⟩:=Ak (show 0<=cw_ ps by lia);refine⟨_,rfl,_,rfl,v,ps,rfl,hv,tp.okt,fun H1 s1=>⟨_,_,rfl,rfl,_,rfl,eS_ (fun h=> ?_) (fun h=> ?_)⟩⟩
  .have:=kk H1 s1;unfold gE_ at this;rw [A9 h] at this;exact this
  have hw:gE_ ps pl=hmF n (mkA ps pl n):=by
   unfold gE_;rw [A7 h,<-ld_,hn,AU]
  have hmk:MkW n (mkA ps pl n):=by
   have:=tp.mw pl p1 (by unfold hI_;lia) p20;rw [<-ld_,hn,AU] at this;exact this
  rw [hw] at kk;obtain⟨da,dvs,rfl,hda,hdi⟩:=dd_ hv;have dlen:dvs.length=ps.length:=by rw [hdi.length,A2]
  refine⟨_,rfl,da,rfl,⟨_,SqL.of (s1 _ _ hda)⟩,fun acc na=> ?_⟩;have nacc:H acc=none:=s1.free na;refine bH_ (xs:=dvs) (own:=3) (js:=[]) (fun j H4=>ak_ H1 H4/\∃vs,H4 acc=some (.lst vs)/\Iss H4 (((ps.take j).map upM).map lf) vs) ⟨ak_.new na,[],ae_,ax_⟩ (fun j H4 _ h=>SqL.of (h.1 _ _ (s1 _ _ hda))) ?_ ?_ mI_ bP_ ?_
  .rintro j x H4 hj ⟨s4,vs,hacc,hi⟩;obtain⟨dd,hdd,hy⟩:=hdi.of_get hj;rw [A6] at hdd;obtain⟨p,hp',rfl⟩:=A4.mp hdd;obtain⟨t,rfl,ht⟩:=g1_ (hy.mono (s1.trans s4));have vl:vs.length<=3:=by rw [hi.length,A2,A2,Af];lia
   refine⟨t,_,rfl,SqT.of ht,rfl,_,_,rfl,_,_,rfl,_,_,rfl,rfl,sa_ ?_⟩;refine⟨_,rfl,_,_,rfl,rfl,_,rfl,_,_,rfl,rfl,_,rfl,(by show 3<=sizeLine;decide),fun t2 H5 nt s5 ht2=>⟨acc,vs,_,rfl,rfl,s5 _ _ hacc,ar_ (by lia),(s4.trans s5).put na,_,ae_, ?_⟩⟩;rw [AM,hp',AL];refine eT_ (cL_.upd (s5 _ _ hacc)) ?_;rw [AL];exact(hi.mono s5).append (az_ (jV_ (p:=upM p) ht2) ax_)
  .rintro H4 ⟨s4,vs,hacc,hi⟩;rw [dlen,AZ] at hi;have s14:=s1.trans s4;refine⟨_,rfl, .ref da,ps,rfl,hv.mono s14,tp.ne,by lia,fun H5 s5=> ?_⟩;rw [hn];refine⟨_,_,rfl,rfl,1,_,rfl,⟨by decide,by decide,by lia,by lia⟩, ?_⟩;rw [show((n:Int)+1-1).toNat=n by lia];refine bT_ (lo:=1) (n:=n) (fun i σ H6=>(∃v3,σ=[some (.ref da),some (.int pl),some (.ref acc),v3])/\ak_ H H6/\∃vs,H6 acc=some (.lst vs)/\Iss H6 ((mkA ps pl i).map lf) vs) ⟨⟨none,rfl⟩,s14.trans s5,vs,s5 _ _ hacc,by unfold mkA;simpa using hi.mono s5⟩ ?_ ?_
   .rintro i σ H6 hi' ⟨⟨v3,rfl⟩,s6,vs6,hacc6,hi6⟩;have ml:=lc_ tp (show pl<=20 by lia) (n:=i) (by lia);have vl:vs6.length=(mkA ps pl i).length:=by rw [hi6.length,A2]
    have ld:=tp.load i (by lia);have lg:=i6_ (ps:=ps) (n:=(cw_ ps).toNat) (i:=i) (by rw [hn,AU];exact hi');refine⟨_,rfl, .inl ⟨rfl,_,SqL.of hacc6⟩,_,rfl,_,rfl,_,_,rfl,rfl,(by show 3<=sizeLine;decide),fun t H7 nt s7 ht=>⟨(by show 1<=sizeLine;decide),fun l H8 nl s8 hl=> ?_⟩⟩;refine⟨_,rfl,_,rfl,_,_,rfl,rfl,_,_,rfl,rfl,_,rfl,_,rfl, .ref da,ps,_,rfl,hv.mono ((s6.trans s7).trans s8),by lia,fun H9 s9=>⟨_,_,rfl,rfl, ?_⟩⟩;refine⟨lf (1+(i:Int),1+(i:Int)+1,1),_,(fg_ hl (az_ (jV_ (s8 _ _ ht)) ax_)).mono s9,rfl,by lia,by lia,Az (ar_ (by lia)),fun b H10 nb s10 hb=> ?_⟩;obtain⟨_,zs,e,hz,hzi⟩:=dd_ hb;cases e;have hacc10:H10 acc=some (.lst vs6):=s10 _ _ (s9 _ _ (s8 _ _ (s7 _ _ hacc6)));have s610:=((s7.trans s8).trans s9).trans s10;have zl:=hzi.length;rw [Am] at zl;refine⟨acc,b,vs6,zs,rfl,rfl,hacc10,hz,Az (ar_ (by lia)),⟨_,rfl⟩,(s6.trans s610).put nacc,_,ae_, ?_⟩;rw [iY_,AL,D4];refine(eT_ (cL_.upd hacc10) (hi6.mono s610)).append ?_;rw [<-D4];refine eT_ (cL_.upd hacc10) ?_;rw [D4];exact hzi
   .rintro σ H6 ⟨⟨v3,rfl⟩,s6,vs6,hacc6,hi6⟩;refine⟨_,rfl, .ref da,ps,rfl,hv.mono s6,tp.ne,by lia,fun H7 s7=> ?_⟩;refine⟨_,rfl,n, .ref acc,mkA ps pl n,by rw [hn];rfl,by lia,by lia,(fg_ hacc6 hi6).mono s7,hmk,fun H8 s8=>kk H8 ((s6.trans s7).trans s8)⟩
  .rintro σ H R R' k ⟨v1,e1,i1,j1,e2,e3,v2,e4,i2,j2,e5,e6,v3,e7,h1,h⟩;exact⟨v1,e1,i1,j1,e2,e3,v2,e4,i2,j2,e5,e6,v3,e7,h1,fun p H2 n s h'=>k _ _ (h p H2 n s h')⟩
theorem f4_:FnOk P w K mg base CX0 2 T.f_last_place T.d_last_place ["d","template"] (rx_ K):=by
 refine T.F_last_place.ok cr_ (fun vs H Q E h=> ?_) (fun cdv A outer s H vs Q E hr h=> ?_)
 .obtain⟨_,_,_,rfl,_⟩:=h;rfl
 .obtain⟨v,ps,d,rfl,hv,tp,kk⟩:=h;refine⟨_,(af_ (as_ (i:=2) cr_.nd rfl (by trivial) (ah_ (cl_ T) (hr.mono (by decide)) (by rfl) T.m_length T.F_length.kp T.B_length .nil au_ (aa_ (pv 1) ad_)))
   (af_ (cP_ (i:=3) cr_.nd rfl (by trivial) (.inl rfl) (XN:=["d","template","reached","heavy"]) (sc:=ab_ bj_) (N:=["lift","reached"]) (own:=1) (js:=[2]) rfl (by ac_nf) rfl rfl (a9_ (pv 1)) (fun _ _ _ _=>(al_ (i:=0) (show List.Nodup (["lift","reached"]:List Str) by ac_nf) rfl (Or.inl rfl) (.inr rfl))) (a1_ (by decide)) (fun _ _ _ _=>(eb_ (gQ_ (aA_ eE_ (aU_ bc_ (pv 0) ac_ (fun _ _=>rfl)) (pv 1) (aH_ _)) (ew_ (aA_ gV_ (aU_ bc_ (pv 0) ac_ (fun _ _=>rfl)) ac_ (aH_ _)))).pt)) (fun _ _ _ _=>(pv 0)))
   (ag_ (ap_ (iO_ (fW_ (pv 3) (fun _=>rfl)) (ai_ aW_ (pv 0) (pv 2)) (ai_ aW_ (ai_ aE_ (pv 0) ac_) (pv 2))))))), ?_⟩
  have l3:=tp.len;obtain⟨da,dvs,rfl,hda,hdi⟩:=dd_ hv;have dlen:dvs.length=ps.length:=by rw [hdi.length,A2]
  refine⟨_,rfl, .ref da,ps,rfl,hv,tp.ne,by lia,fun H1 s1=> ?_⟩;refine⟨_,rfl,da,rfl,⟨_,SqL.of (s1 _ _ hda)⟩,fun acc na=> ?_⟩;refine bH_ (xs:=dvs) (own:=1) (js:=[2]) (fun i H4=>ak_ H1 H4/\∃vs,H4 acc=some (.lst vs)/\vs.length=((ps.take i).filter (hvB (cw_ ps))).length) ⟨ak_.new na,[],ae_,rfl⟩ (fun i H4 _ h=>SqL.of (h.1 _ _ (s1 _ _ hda))) ?_ ?_ a2_ ?_ ?_
  .rintro i x H4 hj ⟨s4,vs,hacc,vl⟩;obtain⟨dd,hdd,hy⟩:=hdi.of_get hj;rw [A6] at hdd;obtain⟨p,hp',rfl⟩:=A4.mp hdd;have hlf:Is H4 (lf p) x:=hy.mono (s1.trans s4);have fl:=Cg (hvB (cw_ ps)) (ps.take i);rw [Af] at fl;have stay:hvB (cw_ ps) p=false->vs.length=((ps.take (i+1)).filter (hvB (cw_ ps))).length:=fun e=>by
    rw [vl,AM,hp',Bs];simp [e]
   refine⟨_,rfl,_,1,_,hlf,rfl,rfl,fun u hu=> ?_⟩;rw [ee_ hu];refine⟨_,rfl,rfl,_,rfl,lA_ (fun h1=> ?_) (fun h1=> ?_)⟩
   .refine⟨_,rfl,_,2,_,hlf,rfl,rfl,fun u hu=> ?_⟩;rw [ee_ hu];refine⟨_,_,rfl,rfl,_,rfl,eS_ (fun h2=> ?_) (fun h2=> ?_)⟩
    .have e:hvB (cw_ ps) p=true:=by unfold hvB;rw [Ah h1,Ah h2];rfl
     refine⟨_,rfl,acc,vs,_,rfl,rfl,hacc,ar_ (by lia),s4.put na,_,ae_, ?_⟩;rw [AO,vl,AM,hp',Bs];simp [e]
    .exact⟨s4,vs,hacc,stay (by unfold hvB;rw [AR h2,CG])⟩
   .exact d0_ ⟨s4,vs,hacc,stay (by unfold hvB;rw [AR h1];rfl)⟩
  .rintro H4 ⟨s4,vs,hacc,vl⟩;rw [dlen,AZ] at vl;unfold oQ_ at kk;by_cases h0:(ps.filter (hvB (cw_ ps))).length=0
   .rw [A9 h0] at kk;have:vs=[]:=BD.mp (by rw [vl,h0]);subst this;exact⟨_,rfl,false, .inl ⟨_,SqL.of hacc,rfl⟩,d0_ ⟨_,rfl,_,_,rfl,rfl,_,rfl,_,_,rfl,rfl,kk H4 (s1.trans s4)⟩⟩
   .rw [A7 h0] at kk;have hne:vs≠[]:=fun z=>h0 (by rw [<-vl,z];rfl);exact⟨_,rfl,true, .inl ⟨_,SqL.of hacc,by simp [hne]⟩,ie_ ⟨_,rfl,_,rfl,_,_,rfl,rfl,kk H4 (s1.trans s4)⟩⟩
  .rintro σ H R R' k h;obtain⟨v1,e1,xs,i,d,h1,e2,e3,h⟩:=h;refine⟨v1,e1,xs,i,d,h1,e2,e3,fun u hu=> ?_⟩;obtain⟨v2,e4,e5,b,e7,h⟩:=h u hu;refine⟨v2,e4,e5,b,e7, ?_⟩;cases b with
   |true=>
    obtain⟨v1,e1,xs,i,d,h1,e2,e3,h⟩:=h;refine⟨v1,e1,xs,i,d,h1,e2,e3,fun u hu=> ?_⟩;obtain⟨i1,j1,e5,e6,b,e7,h⟩:=h u hu;exact⟨i1,j1,e5,e6,b,e7,k _ _ h⟩
   |false=>exact k _ _ h
  .rintro σ H R R' k ⟨v1,e1,h⟩;exact⟨v1,e1,k _ _ h⟩
theorem kF_ {H H':Hp} (s:cL_ H H'):∀{xs:List Rw}{vs:List V},Iss H (xs.map rD) vs->Iss H' (xs.map rD) vs
 |[],vs,h=>by rw [cm_ h];exact ax_
 |x::xs,vs,h=>by
  obtain⟨u,us,rfl,h1,h2⟩:=ba_ h;exact az_ (kl_ s h1) (kF_ s h2)
theorem kq_ {d:Int}{c:Nat}:∀{ts:List (List Lf)},(∀ps∈ts,nP d ps<=13)->(ts.flatMap fun ps=>hH_ d c ps (nP d ps)).length<=13*ts.length
 |[],_=>by simp
 |ps::ts,h=>by
  have h1:=h ps (by simp);have h2:=kq_ (d:=d) (c:=c) (ts:=ts) fun p hp=>h p (by simp [hp]);rw [List.flatMap_cons,AO,Ag];unfold hH_ at h2⊢;rw [A2,C6];lia
theorem gX_:FnOk P w K mg base CX0 11 T.f_standings T.d_standings ["d","k"] (rr_ K):=by
 refine T.F_standings.ok bu_ (fun vs H Q E h=> ?_) (fun cdv A outer s H vs Q E hr h=> ?_)
 .obtain⟨_,_,rfl,_⟩:=h;rfl
 .obtain⟨d,k,rfl,d1,d5,k3,kk⟩:=h;refine⟨_,(af_ (as_ (i:=2) bu_.nd rfl (by trivial) (cf_ ad_))
   (af_ (bd_ AS rfl (bQ_ (by rfl) T.n_range (aa_ ac_ (aa_ (ai_ aE_ (pv 1) ac_) ad_))) (al_ (i:=3) bu_.nd rfl (by trivial)) (ag_ (bd_ AS rfl (a9_ (ah_ (gW_ T) (hr.mono (by decide)) (by rfl) T.m_templates T.F_templates.kp T.B_templates .nil gT_ (aa_ (pv 3) ad_))) (al_ (i:=4) bu_.nd rfl (by trivial)) (ag_ (bd_ AS rfl (bQ_ (by rfl) T.n_range (aa_ (ah_ (c1_ T) (hr.mono (by decide)) (by rfl) T.m_least_place T.F_least_place.kp T.B_least_place .nil au_ (aa_ (pv 4) ad_)) (aa_ (ai_ aE_ (ah_ (f4_ T) (hr.mono (by decide)) (by rfl) T.m_last_place T.F_last_place.kp T.B_last_place .nil au_ (aa_ (pv 0) (aa_ (pv 4) ad_))) ac_) ad_))) (al_ (i:=5) bu_.nd rfl (by trivial)) (af_ (as_ (i:=6) bu_.nd rfl (by trivial) (ai_ ck_ (ah_ (h7_ T) (hr.mono (by decide)) (by rfl) T.m_words_at T.F_words_at.kp T.B_words_at .nil au_ (aa_ (pv 4) (aa_ (pv 5) ad_))) (ah_ (mF_ T) (hr.mono (by decide)) (by rfl) T.m_worth T.F_worth.kp T.B_worth .nil au_ (aa_ (pv 4) ad_))))
   (ag_ (bM_ (jN_ BR PySem.F.slot_list_append PySem.F.type_list_append dp_ (pv 2) (aa_ (ce_ (aa_ (pv 3) (aa_ (pv 5) (aa_ (ai_ aE_ (pv 5) (ah_ (cl_ T) (hr.mono (by decide)) (by rfl) T.m_length T.F_length.kp T.B_length .nil au_ (aa_ (pv 4) ad_))) (aa_ (pv 6) ad_))))) ad_))))))))))
   (ag_ (ap_ (pv 2))))), ?_⟩
  refine⟨AT _,fun fo H1 n1 s1 h1=> ?_⟩;refine⟨_,rfl,_,_,rfl,rfl,1,_,rfl,⟨by decide,by decide,by lia,by lia⟩, ?_⟩;rw [show((k:Int)+1-1).toNat=k by lia];refine bT_ (lo:=1) (n:=k) (fun c σ H2=>(∃v3 v4 v5 v6,σ=[some (.int d),some (.int k),some (.ref fo),v3,v4,v5,v6])/\ak_ H H2/\∃vs,H2 fo=some (.lst vs)/\Iss H2 ((kr_ (d:Int) c).map rD) vs) ⟨⟨none,none,none,none,rfl⟩,s1,[],h1,ax_⟩ ?_ ?_
  .rintro c σ H2 hc ⟨⟨v3,v4,v5,v6,rfl⟩,s2,vs2,hfo2,hi2⟩;have ec:(1:Int)+(c:Int)=((c+1:Nat):Int):=by lia
   rw [ec];have pl:=(ip_ d1 d5 (k:=c) (by lia)).2.1;have es:kr_ (d:Int) (c+1)=kr_ (d:Int) c++rn_ (d:Int) (c+1):=bl_ _ _;rw [es];unfold rn_;generalize kr_ (d:Int) c=pre at hi2 pl⊢;refine⟨_,rfl, .int ((c+1:Nat):Int),rfl, .inl ⟨_,rfl⟩,fun m em m1 m3 l H3 s3 nl hl=> ?_,fun h=>absurd ⟨_,rfl,by lia,by lia⟩ h⟩;obtain rfl:m=c+1:=by have:=V.int.inj em;lia
   obtain⟨_,tvs,e,hl',hti⟩:=dd_ hl;cases e;have hl3:H3 l=some (.lst tvs):=c9_ _ _ hl';have tlen:tvs.length=(sT (c+1)).length:=by rw [hti.length,A2]
   have tl30:=p2_ (c:=c+1) (by lia) (by lia);have lfo:l≠fo:=by rintro rfl;rw [hfo2] at nl;cases nl
   have keep:∀{H4:Hp},But fo H3 H4->ak_ (nw H2 H3) H4:=fun b c' o e=>by
    refine b c' o (c9_ _ _ e) ?_;rintro rfl;unfold nw at e;rw [hfo2] at e;cases e
   have tps:∀ps∈sT (c+1),Tp ps:=fun ps hp=>ra_ (by lia) (by lia) hp;generalize sT (c+1)=ts at hti tlen tl30 tps⊢;refine⟨l,rfl,⟨_,SqL.of hl3⟩,b0_ (xs:=tvs) (fun j σ H4=>(∃v4 v5 v6,σ=[some (.int d),some (.int k),some (.ref fo),some (.int ((c+1:Nat):Int)),v4,v5,v6])/\ak_ H H4/\But fo H3 H4/\∃vs,H4 fo=some (.lst vs)/\Iss H4 ((pre++(ts.take j).flatMap fun ps=>hH_ (d:Int) (c+1) ps (nP (d:Int) ps)).map rD) vs) ⟨⟨_,_,_,rfl⟩,s2.trans s3,fun _ _ e _=>e,vs2,s3 _ _ hfo2,by simpa using hi2.mono s3⟩ (fun j σ H4 _ h=>SqL.of (h.2.2.1 _ _ hl3 lfo)) ?_ ?_⟩
   .rintro j y σ H4 hj ⟨⟨v4,v5,v6,rfl⟩,s4,but4,vs4,hfo4,hi4⟩;obtain⟨dd,hdd,hy⟩:=hti.of_get hj;rw [A6] at hdd;obtain⟨ps,hps,rfl⟩:=A4.mp hdd;have tp:=tps ps (AX hps);have l3:=tp.len;have jl:j<ts.length:=(AC.mp hps).1;have pl2:=kq_ (d:=(d:Int)) (c:=c+1) (ts:=ts.take j) fun q hq=>(tps q (List.mem_of_mem_take hq)).np d d1 d5;rw [Af] at pl2;have ez:(ts.take (j+1)).flatMap (fun ps=>hH_ (d:Int) (c+1) ps (nP (d:Int) ps))=(ts.take j).flatMap (fun ps=>hH_ (d:Int) (c+1) ps (nP (d:Int) ps))++hH_ (d:Int) (c+1) ps (nP (d:Int) ps):=by
     rw [AM,hps,List.flatMap_append];simp
    rw [ez,<-BX];have pl3:(pre++(ts.take j).flatMap fun ps=>hH_ (d:Int) (c+1) ps (nP (d:Int) ps)).length<=840:=by rw [AO];lia
    generalize (pre++(ts.take j).flatMap fun ps=>hH_ (d:Int) (c+1) ps (nP (d:Int) ps))=pr at hi4 pl3⊢;have hy4:∀{H5:Hp},But fo H3 H5->Is H5 (lfs ps) y:=fun b=>hy.mono (keep b);have np13:=tp.np d d1 d5;have hls:oQ_ (d:Int) ps<=13:=by
     have:=tp.l1;unfold oQ_;split<;>lia
    have lp:=tp.lea;refine⟨_,rfl,y,ps,rfl,hy4 but4,tp.okt,fun H5 s5=>⟨_,rfl,_,rfl,y,ps,d,rfl,hy4 (but4.trans (But.of_same s5)),tp,fun H6 s6=> ?_⟩⟩;have hla:oQ_ (d:Int) ps<=13/\hI_ ps<=100:=by
     have:=tp.l6;exact⟨by lia,by lia⟩
    refine⟨_,_,rfl,rfl,_,_,rfl,⟨by show -(2^62)<=hI_ ps;lia,by show hI_ ps<2^62;lia,by have:=tp.l4;unfold oQ_;split<;>lia,by lia⟩, ?_⟩
    have but6:But fo H3 H6:=(but4.trans (But.of_same s5)).trans (But.of_same s6);show∃Wq:Nat->Nat->L2.St->Hp->Prop,_;refine bT_ (lo:=hI_ ps) (n:=nP (d:Int) ps) (fun i σ H7=>(∃v5 v6,σ=[some (.int d),some (.int k),some (.ref fo),some (.int ((c+1:Nat):Int)),some y,v5,v6])/\ak_ H H7/\But fo H3 H7/\∃vs,H7 fo=some (.lst vs)/\Iss H7 ((pr++hH_ (d:Int) (c+1) ps i).map rD) vs) ⟨⟨_,_,rfl⟩,(s4.trans s5).trans s6,but6,vs4,s6 _ _ (s5 _ _ hfo4),by unfold hH_;simpa using (hi4.mono s5).mono s6⟩ ?_ ?_
    .rintro i σ H7 hi ⟨⟨v5,v6,rfl⟩,s7,but7,vs7,hfo7,hi7⟩;have i5:hI_ ps+(i:Int)<=14:=by unfold nP at hi;lia
     have vl:=hi7.length;rw [A2,AO] at vl;have sl:(hH_ (d:Int) (c+1) ps i).length=i:=by unfold hH_;rw [A2,C6]
     refine⟨_,rfl,_,rfl,y,ps,_,rfl,hy4 but7,tp,by lia,i5,fun H8 s8=> ?_⟩;have but8:=but7.trans (But.of_same s8);have w0:=tp.w0;have w1:=tp.w1;refine⟨_,rfl,y,ps,0,rfl,hy4 but8,(fun p hp=>⟨trivial,by have:=tp.ok p hp;lia,by have:=tp.ok p hp;lia⟩),_,_,rfl,rfl, .inr ⟨by lia,by lia⟩, ?_⟩;have hfo8:=s8 _ _ hfo7;refine⟨_,rfl, .inl ⟨rfl,_,SqL.of hfo8⟩,_,rfl,_,rfl,_,rfl,_,rfl,y,ps,rfl,hy4 but8,tp.ne,by lia,fun H9 s9=>⟨_,_,rfl,rfl,_,rfl,(by show 4<=sizeLine;decide),fun t H10 nt s10 ht=> ?_⟩⟩;have hfo10:=s10 _ _ (s9 _ _ hfo8);refine⟨fo,vs7,_,rfl,rfl,hfo10,ar_ (by lia),⟨_,_,rfl⟩,(((s7.trans s8).trans s9).trans s10).put n1,((but8.trans (But.of_same s9)).trans (But.of_same s10)).trans But.upd,_,ae_, ?_⟩;have ew:hH_ (d:Int) (c+1) ps (i+1)=hH_ (d:Int) (c+1) ps i++[rwC (c+1) ps i]:=by
      unfold hH_;rw [Bv,AL];rfl
     rw [ew,<-BX,AL];refine(kF_ (cL_.upd hfo10) (((hi7.mono s8).mono s9).mono s10)).append (az_ (kl_ (cL_.upd hfo10) (if_ (xs:=r4 (rwC (c+1) ps i)) ht)) ax_)
    .rintro σ H7 ⟨⟨v5,v6,rfl⟩,s7,but7,vs7,hfo7,hi7⟩;exact⟨⟨_,_,_,rfl⟩,s7,but7,vs7,hfo7,hi7⟩
   .rintro σ H4 ⟨⟨v4,v5,v6,rfl⟩,s4,but4,vs4,hfo4,hi4⟩;rw [tlen,AZ] at hi4;exact⟨⟨_,_,_,_,rfl⟩,s4,vs4,hfo4,hi4⟩
  .rintro σ H2 ⟨⟨v3,v4,v5,v6,rfl⟩,s2,vs2,hfo2,hi2⟩;exact⟨_,rfl,kk fo H2 s2 n1 (fg_ hfo2 hi2)⟩
theorem nW_ {kd:Addr}{H H':Hp}{kvs:List (List Key×V)} (hk:H kd=some (.dT kvs)) (b:But kd H H') {x:D}{v:V} (h:Is H x v):Is H' x v:=
 h.lts ⟨fun c xs e=>b _ _ e (by rintro rfl;rw [hk] at e;cases e),fun c xs e=>b _ _ e (by rintro rfl;rw [hk] at e;cases e)⟩
theorem pj_ {S:List Rw}{n k:Nat}{f:Int} (hk:k≠0):cdF S (n+1) k f=(S.map fun r=>if r.1<=(k:Int)/\f<=r.2.1 then r.2.2.2*cdF S n ((k:Int)-r.1).toNat r.2.2.1 else 0).sum:=by
 obtain⟨k',rfl⟩:∃k',k=k'+1:=⟨k-1,by lia⟩;rfl
theorem fv_:∀n:Nat,FnOk P w K mg base CX0 (n+1) T.f_counted T.d_counted ["k","first","standing","known"] (rB_ n K)
 |0=>⟨fun vs H Q E h=>(by obtain⟨_,_,_,_,_,_,_,_,_,h,_⟩:=h;exact absurd h (Nat.not_lt_zero _)),fun A outer s H args us vs Q E _ _ _ _ h=>(by obtain⟨_,_,_,_,_,_,_,_,_,h,_⟩:=h;exact absurd h (Nat.not_lt_zero _))⟩
 |n+1=>by
  have ih:=fv_ n;refine T.F_counted.ok bv_ (fun vs H Q E h=> ?_) (fun cdv A outer s H vs Q E hr h=> ?_)
  .obtain⟨_,_,_,_,_,_,rfl,_⟩:=h;rfl
  .obtain⟨k,f,v,kd,S,KK,rfl,hv,hkn,hkn',hn5,k3,f9,KK3,hS,hSl,kk⟩:=h;refine⟨_,(af_ (b5_ (aA_ eE_ (pv 0) ac_ (aH_ _)) (ag_ (ap_ ac_)) aP_)
   (af_ (as_ (i:=4) bv_.nd rfl (by trivial) (ce_ (aa_ (pv 0) (aa_ (pv 1) ad_))))
   (af_ (b5_ (p7_ (kX_ (ig_ hr) (pv 4) (pv 3)) rfl) (af_ (as_ (i:=5) bv_.nd rfl (by trivial) ac_)
   (af_ (bd_ AS rfl (a9_ (pv 2)) (dV_ rfl (aG_ (al_ (i:=6) bv_.nd rfl (by trivial)) (aG_ (al_ (i:=7) bv_.nd rfl (by trivial)) (aG_ (al_ (i:=8) bv_.nd rfl (by trivial)) (aG_ (al_ (i:=9) bv_.nd rfl (by trivial)) cu_))))) (ag_ (b5_ (gQ_ (aA_ h6_ (pv 6) (pv 0) (aH_ _)) (ew_ (aA_ rO_ (pv 7) (pv 1) (aH_ _)))).pt (ag_ (iL_ (i:=5) bv_.nd rfl (by trivial) (ai_ ck_ (pv 9) (ah_ ih hr (by rfl) T.m_counted T.F_counted.kp T.B_counted .nil au_ (aa_ (ai_ aW_ (pv 0) (pv 6)) (aa_ (pv 8) (aa_ (pv 2) (aa_ (pv 3) ad_)))))) jk_)) aP_)))
   (ag_ (kM_ (ig_ hr) (pv 3) (pv 4) (pv 5) rfl)))) aP_)
   (ag_ (ap_ (kW_ (ig_ hr) (pv 3) (pv 4) (fun _ _=>rfl))))))), ?_⟩
   have hS1:∀r∈S,1<=r.1/\r.1<=3/\0<=r.2.1/\1<=r.2.2.1/\r.2.2.1<=20/\0<=r.2.2.2/\r.2.2.2<2^60:=fun r hr=>by
    have:=hS r hr;unfold rwB at this;simp only [AE,Au] at this;lia
   refine⟨_,rfl,rfl,_,rfl,lA_ (fun e=> ?_) (fun e=> ?_)⟩
   .obtain rfl:k=0:=by lia
    exact kk H (fun _ _ e _=>e) hkn
   have k0:k≠0:=by lia
   refine⟨_,rfl,_,rfl,(by show 2<=sizeLine;decide),fun t H1 nt s1 ht=> ?_⟩;obtain⟨D,hkd,kn⟩:=hkn;have hkd1:=s1 _ _ hkd;have ht':H1 t=some (.tup ((dZ_ [(k:Int),(f:Int)]).map kV)):=by rw [eQ_];exact ht
   have tkd:t≠kd:=by rintro rfl;rw [hkd] at nt;cases nt
   have b1:But kd H H1:=But.of_same s1;have fin:∀{H2:Hp}{D2:Tab},But kd H H2->H2 kd=some (.dT (c5_ D2))->Kn S D2->H2 t=some (.tup ((dZ_ [(k:Int),(f:Int)]).map kV))->(∃v,D2.find? (fun x=>decide (x.1=[(k:Int),(f:Int)]))=some v)->∃a v,V.ref kd=V.ref a/\j7_ H2 a (.ref t) (some v)/\Q v H2:=fun{H2 D2} b2 h2 kn2 ht2 ⟨x,hx⟩=>by
    have hg:=j7_.t h2 ht2;rw [d6_,hx] at hg;refine⟨kd,_,rfl,hg, ?_⟩;obtain⟨k',f',e1,_,_,e2⟩:=kn2.key x (List.mem_of_find?_eq_some hx);have e3:x.1=[(k:Int),(f:Int)]:=by simpa using List.find?_some hx
    rw [e1] at e3;simp only [List.cons.injEq] at e3;have e4:k'=k:=by lia
    have e5:f'=f:=by lia
    subst e4 e5;show Q (.int x.2) H2;rw [e2];exact kk H2 b2 ⟨D2,h2,kn2⟩
   refine⟨_,rfl,_,rfl,kd,_,rfl,j7_.t hkd1 ht', ?_⟩;rw [d6_];cases hfind:D.find? (fun x=>decide (x.1=[(k:Int),(f:Int)])) with
   |some x=>
    refine⟨_,rfl,d0_ ?_⟩;exact⟨_,rfl,_,rfl,fin b1 hkd1 kn ht' ⟨x,hfind⟩⟩
   |none=>
    refine⟨_,rfl,ie_ ?_⟩;obtain⟨da,dvs,rfl,hda,hdi⟩:=dd_ hv;have dakd:da≠kd:=by rintro rfl;rw [hkd] at hda;cases hda
    have dlen:dvs.length=S.length:=by rw [hdi.length,A2]
    refine⟨_,rfl,da,rfl,⟨_,SqL.of (b1 _ _ hda dakd)⟩,b0_ (xs:=dvs) (fun i σ H2=>(∃v6 v7 v8 v9,σ=[some (.int k),some (.int f),some (.ref da),some (.ref kd),some (.ref t),some (.int (((S.take i).map fun r=>if r.1<=(k:Int)/\(f:Int)<=r.2.1 then r.2.2.2*cdF S 2 ((k:Int)-r.1).toNat r.2.2.1 else 0).sum)),v6,v7,v8,v9])/\But kd H1 H2/\KnD H2 kd S) ⟨⟨none,none,none,none,rfl⟩,(fun _ _ e _=>e),⟨D,hkd1,kn⟩⟩ (fun i σ H2 _ h=>SqL.of (h.2.1 _ _ (b1 _ _ hda dakd) dakd)) ?_ ?_⟩
    .rintro i y σ H2 hi ⟨⟨v6,v7,v8,v9,rfl⟩,b2,D2,hkd2,kn2⟩;obtain⟨dd,hdd,hy⟩:=hdi.of_get hi;rw [A6] at hdd;obtain⟨r,hr',rfl⟩:=A4.mp hdd;obtain⟨r1,r2,r3,r4',r5,r6,r7⟩:=hS1 r (AX hr');obtain⟨a,rfl,ha⟩:=g0_ (xs:=r4 r) hy;have akd:a≠kd:=by rintro rfl;rw [hkd] at ha;cases ha
     have ha2:H2 a=some (.tup ((r4 r).map V.int)):=b2 _ _ (b1 _ _ ha akd) akd;have es:((S.take (i+1)).map fun r=>if r.1<=(k:Int)/\(f:Int)<=r.2.1 then r.2.2.2*cdF S 2 ((k:Int)-r.1).toNat r.2.2.1 else 0).sum=((S.take i).map fun r=>if r.1<=(k:Int)/\(f:Int)<=r.2.1 then r.2.2.2*cdF S 2 ((k:Int)-r.1).toNat r.2.2.1 else 0).sum+(if r.1<=(k:Int)/\(f:Int)<=r.2.1 then r.2.2.2*cdF S 2 ((k:Int)-r.1).toNat r.2.2.1 else 0):=by
      rw [AM,hr',AL,List.sum_append];simp
     rw [es];refine⟨a,_,rfl,SqT.of ha2,rfl,_,_,rfl,_,_,rfl,_,_,rfl,_,_,rfl,rfl, ?_⟩;refine⟨_,rfl,_,rfl,_,_,rfl,rfl,_,rfl,eS_ (fun h1=> ?_) (fun h1=> ?_)⟩
     .refine⟨_,rfl,_,rfl,_,_,rfl,rfl,_,rfl,eS_ (fun h2=> ?_) (fun h2=> ?_)⟩
      .rw [A9 ⟨h1,h2⟩];obtain⟨k',hk'⟩:=Ak (show 0<=(k:Int)-r.1 by lia);obtain⟨f',hf'⟩:=Ak (show 0<=r.2.2.1 by lia);refine⟨_,rfl,_,rfl,_,rfl,_,rfl,_,_,rfl,rfl,_,rfl,_,rfl,_,rfl,k',f', .ref da,kd,S,KK,by show [V.int ((k:Int)-r.1),V.int r.2.2.1,V.ref da,V.ref kd]++[]=_;rw [hk',hf'];rfl,nW_ hkd2 (fun _ _ e _=>e) (nW_ hkd1 b2 (hv.mono s1)),⟨D2,hkd2,kn2⟩,by lia,by lia,by lia,by lia,KK3,hS,hSl,fun H3 b3 hkn3=> ?_⟩;rw [hk',AU,hf',jw_ S (fun r hr=>(hS1 r hr).1) 2 3 k' (f':Int) (by lia) (by lia)];refine⟨_,_,rfl,rfl, .inl ⟨by lia,by lia⟩,_,_,rfl,rfl,⟨_,_,_,_,rfl⟩,b2.trans b3,hkn3⟩
      .rw [A7 (fun z=>h2 z.2),Int.add_zero];exact⟨⟨_,_,_,_,rfl⟩,b2,D2,hkd2,kn2⟩
     .rw [A7 (fun z=>h1 z.1),Int.add_zero];exact d0_ ⟨⟨_,_,_,_,rfl⟩,b2,D2,hkd2,kn2⟩
    .rintro σ H2 ⟨⟨v6,v7,v8,v9,rfl⟩,b2,D2,hkd2,kn2⟩;rw [dlen,AZ];have ev:((S.map fun r=>if r.1<=(k:Int)/\(f:Int)<=r.2.1 then r.2.2.2*cdF S 2 ((k:Int)-r.1).toNat r.2.2.1 else 0).sum)=cdF S 3 k (f:Int):=(pj_ k0).symm;rw [ev];have ht2:H2 t=some (.tup ((dZ_ [(k:Int),(f:Int)]).map kV)):=b2 _ _ ht' tkd;refine⟨_,rfl,_,rfl,_,rfl,kd,_,rfl,pE_.t hkd2 ht2 (oN_ (by rw [fN_];have:=kn2.size;lia)), ?_⟩;rw [fM_];refine⟨_,rfl,_,rfl,fin ((b1.trans b2).trans But.upd) ae_ (kn2.put k3 f9 rfl) (by rw [aj_ tkd];exact ht2) ?_⟩;have:=n4_ D2 [(k:Int),(f:Int)] (cdF S 3 k (f:Int));exact⟨_,this⟩
theorem bW_:FnOk P w K mg base CX0 12 T.f_count_of_rows T.d_count_of_rows ["d","k"] (rC_ K):=by
 refine T.F_count_of_rows.ok d4_ (fun vs H Q E h=> ?_) (fun cdv A outer s H vs Q E hr h=> ?_)
 .obtain⟨_,_,rfl,_⟩:=h;rfl
 .obtain⟨d,k,rfl,d1,d5,k3,kk⟩:=h;refine⟨_,(ag_ (ap_ (ah_ (fv_ T 5) (hr.mono (by decide)) (by rfl) T.m_counted T.F_counted.kp T.B_counted .nil au_ (aa_ (pv 1) (aa_ ac_ (aa_ (ah_ (gX_ T) (hr.mono (by decide)) (by rfl) T.m_standings T.F_standings.kp T.B_standings .nil au_ (aa_ (pv 0) (aa_ (pv 1) ad_))) (aa_ iP_ ad_))))))), ?_⟩;obtain⟨c2,c3,_⟩:=ip_ d1 d5 k3;refine⟨_,rfl,_,rfl,_,rfl,d,k,rfl,d1,d5,k3,fun l H1 s1 nl hl=>fun kd nkd=> ?_⟩;refine⟨k,1, .ref l,kd,kr_ (d:Int) k,k,rfl,hl.mono (ak_.new nkd),⟨[],ae_,Kn.nil⟩,by lia,by decide,k3,by decide,k3,c2,c3,fun H2 b2 _=> ?_⟩;exact kk H2 fun c o e=>b2 _ _ (ak_.new nkd _ _ (s1 _ _ e)) (by rintro rfl;rw [s1 _ _ e] at nkd;cases nkd)
theorem bR_:FnOk P w K mg base (CX1 P w) 13 T.f_count_by_templates T.d_count_by_templates ["d","k"] (rE_ T.c_NoBound):=by
 refine T.F_count_by_templates.okx cE_ (fun vs H Q E h=> ?_) (fun cdv A outer s H vs Q E hr h hR hp=> ?_)
 .obtain⟨_,_,rfl,_⟩:=h;rfl
 .obtain⟨d,k,rfl,d1,d12,k3,kk⟩:=h;refine⟨_,(af_ (bM_ (ah_ (bk_ T) (hr.mono (by decide)) (by rfl) T.m_need_between T.F_need_between.kp T.B_need_between .nil hp (aa_ (pv 0) (aa_ ac_ (aa_ ac_ ad_)))))
   (af_ (bM_ (ah_ (bk_ T) (hr.mono (by decide)) (by rfl) T.m_need_between T.F_need_between.kp T.B_need_between .nil hp (aa_ (pv 1) (aa_ ac_ (aa_ ac_ ad_)))))
   (ag_ (ap_ (ah_ (bW_ T) (hr.mono (by decide)) (by rfl) T.m_count_of_rows T.F_count_of_rows.kp T.B_count_of_rows .nil au_ (aa_ (pv 0) (aa_ (pv 1) ad_))))))), ?_⟩
  refine⟨_,rfl, .int d,1,12,rfl, .inl ⟨_,rfl⟩,fun _=> ?_,fun h=>absurd ⟨_,rfl,by lia,by lia⟩ h⟩;refine⟨_,rfl, .int k,0,3,rfl, .inl ⟨_,rfl⟩,fun _=> ?_,fun h=>absurd ⟨_,rfl,by lia,by lia⟩ h⟩;exact⟨_,rfl,_,rfl,d,k,rfl,d1,by lia,k3,kk⟩
theorem cZ_:FnOk P w K mg base CX0 1 T.f_surely_from T.d_surely_from ["k"] (pT_ K):=by
 refine T.F_surely_from.ok e9_ (fun vs H Q E h=> ?_) (fun cdv A outer s H vs Q E hr h=> ?_)
 .obtain⟨_,rfl,_⟩:=h;rfl
 .obtain⟨k,rfl,k3,kk⟩:=h;refine⟨_,(ag_ (ap_ (ai_ aE_ (ai_ ck_ ac_ (pv 0)) ac_))), ?_⟩;exact⟨_,rfl,_,_,rfl,rfl, .inl ⟨by decide,by decide⟩,_,_,rfl,rfl,kk⟩
def vsC (k n:Nat):List Int:=(List.range n).map fun m=>fh_ (2*k+1+m) k
theorem bV_:FnOk P w K mg base (CX1 P w) 13 T.f_polynomial_of T.d_polynomial_of ["k"] (rs_ T.c_NoBound):=by
 refine T.F_polynomial_of.okx cy_ (fun vs H Q E h=> ?_) (fun cdv A outer s H vs Q E hr h hR hp=> ?_)
 .obtain⟨_,rfl,_⟩:=h;rfl
 .obtain⟨v,rfl,ht,kk,ke⟩:=h;refine⟨_,(af_ (bM_ (ah_ (bk_ T) (hr.mono (by decide)) (by rfl) T.m_need_between T.F_need_between.kp T.B_need_between .nil hp (aa_ (pv 0) (aa_ ac_ (aa_ ac_ ad_)))))
   (af_ (as_ (i:=1) cy_.nd rfl (by trivial) (ah_ (cZ_ T) (hr.mono (by decide)) (by rfl) T.m_surely_from T.F_surely_from.kp T.B_surely_from .nil au_ (aa_ (pv 0) ad_)))
   (ag_ (ap_ (ah_ (jO_ T) (hr.mono (by decide)) (by rfl) T.m_through T.F_through.kp T.B_through .nil au_ (aa_ (pv 1) (aa_ (cb_ (XN:=["k","start"]) (sc:=ab_ aM_) (N:=["degree","k"]) (own:=1) (js:=[0]) rfl (by ac_nf) rfl rfl (bQ_ (by rfl) T.n_range (aa_ (pv 1) (aa_ (ai_ aE_ (ai_ aE_ (pv 1) (ai_ ck_ ac_ (pv 0))) ac_) ad_))) (fun _ _ _ _=>(al_ (i:=0) (show List.Nodup (["degree","k"]:List Str) by ac_nf) rfl (Or.inl rfl) (.inr rfl))) (a1_ (by decide)) (fun _ _ _ _=>bO_) (fun _ _ _ _=>(ah_ (bW_ T) (hr.mono (by decide)) (by rfl) T.m_count_of_rows T.F_count_of_rows.kp T.B_count_of_rows .nil au_ (aa_ (pv 0) (aa_ (pv 1) ad_))))) ad_))))))), ?_⟩
  refine⟨_,rfl,v,0,3,rfl,ht,fun⟨i,ei,i1,i2⟩=> ?_,fun h=>⟨by decide,ke h⟩⟩;subst ei;obtain⟨k,rfl⟩:=Ak i1;have k3:k<=3:=by lia
  have kk:=kk k rfl k3;refine⟨_,rfl,k,rfl,k3, ?_⟩;refine⟨_,rfl,_,rfl,_,rfl,_,rfl,_,_,rfl,rfl, .inl ⟨by decide,by decide⟩,_,_,rfl,rfl,_,_,rfl,rfl,_,_,rfl,⟨by lia,by lia,by lia,by lia⟩,fun acc na=> ?_⟩;rw [show((((2*k+1:Nat):Int)+2*(k:Int)+1)-((2*k+1:Nat):Int)).toNat=2*k+1 by lia];refine cR_ (lo:=((2*k+1:Nat):Int)) (n:=2*k+1) (own:=1) (js:=[0]) (fun i H2=>ak_ H H2/\H2 acc=some (.lst ((vsC k i).map V.int))) ⟨ak_.new na,ae_⟩ ?_ ?_ a2_ bP_ ?_
  .rintro i H2 hi ⟨s2,hacc⟩;refine nh_ ?_;refine⟨_,rfl,_,rfl,2*k+1+i,k,by rfl,by lia,by lia,k3,fun H3 s3=>⟨acc,_,_,rfl,rfl,s3 _ _ hacc,ar_ (by unfold vsC;rw [A2,A2,C6];lia),(s2.trans s3).put na, ?_⟩⟩;rw [ae_];unfold vsC;rw [Bv,AL,AL];rfl
  .rintro H2 ⟨s2,hacc⟩;have vl:(vsC k (2*k+1)).length=2*k+1:=by unfold vsC;rw [A2,C6]
   have vg:∀m:Nat,m<2*k+1->(vsC k (2*k+1)).getD m 0=fh_ (2*k+1+m) k:=fun m hm=>by
    unfold vsC;rw [AD,A6,List.getElem?_range hm];rfl
   obtain⟨sc1,sc2,sc3,sc4,sc5,sc6⟩:=kv_ k (by lia);refine⟨_,acc,vsC k (2*k+1),rfl,SqL.of hacc,by lia,fun x hx=> ?_,Ai (m:=100) (by lia) (by decide),fun t l zs b H' s' nl ht' hl' thru=> ?_⟩
   .unfold vsC at hx;obtain⟨m,hm,rfl⟩:=Aa.mp hx;have hm:=BN.mp hm;obtain⟨_,_,c0,c1,_⟩:=ip_ (d:=2*k+1+m) (k:=k) (by lia) (by lia) k3;exact b8_ (n:=100) (by lia) (by decide)
   .obtain⟨t1,t2,t3,_⟩:=thru;rw [vl] at t2 t3;obtain⟨e1,e2⟩:=rP_ (n:=2*k+1) (s:=((2*k+1:Nat):Int)) t1 (q8_ k (by lia)) t2 (by lia) fun m hm=>by
     rw [t3 m hm,vg m hm];have:=(ip_ (d:=2*k+1+m) (k:=k) (by lia) (by lia) k3).2.2.2.2.1 (by lia);rw [show((2*k+1:Nat):Int)+(m:Int)=((2*k+1+m:Nat):Int) by lia,this]
     grind
    subst e1 e2;exact kk t l H' (s2.trans s') (s2.free nl) ht' hl'
  .rintro σ H R R' k' ⟨v1,e1,v2,e2,d,k0,e3,h1,h2,h3,h⟩;exact⟨v1,e1,v2,e2,d,k0,e3,h1,h2,h3,fun H' s'=>k' _ _ (h H' s')⟩
theorem dn_:FnOk P w K mg base (CX1 P w) 14 T.f_holds_from T.d_holds_from ["k"] (pY_ T.c_NoBound):=by
 refine T.F_holds_from.okx bY_ (fun vs H Q E h=> ?_) (fun cdv A outer s H vs Q E hr h hR hp=> ?_)
 .obtain⟨_,rfl,_⟩:=h;rfl
 .obtain⟨v,rfl,ht,kk,ke⟩:=h;refine⟨_,(af_ (bM_ (ah_ (bk_ T) (hr.mono (by decide)) (by rfl) T.m_need_between T.F_need_between.kp T.B_need_between .nil hp (aa_ (pv 0) (aa_ ac_ (aa_ ac_ ad_)))))
   (af_ (as_ (i:=1) bY_.nd rfl (by trivial) (ah_ (bV_ T) (hr.mono (by decide)) (by rfl) T.m_polynomial_of T.F_polynomial_of.kp T.B_polynomial_of .nil hp (aa_ (pv 0) ad_)))
   (af_ (as_ (i:=2) bY_.nd rfl (by trivial) (ah_ (cZ_ T) (hr.mono (by decide)) (by rfl) T.m_surely_from T.F_surely_from.kp T.B_surely_from .nil au_ (aa_ (pv 0) ad_)))
   (af_ (PS.quiet (ea_ AS (gQ_ (aA_ gV_ (pv 2) ac_ (aH_ _)) (ew_ (aA_ (fu_ hr) (ah_ (ed_ T) (hr.mono (by decide)) (by rfl) T.m_value T.F_value.kp T.B_value .nil au_ (aa_ (pv 1) (aa_ (ai_ aW_ (pv 2) ac_) ad_))) (cX_ (aa_ (ah_ (bW_ T) (hr.mono (by decide)) (by rfl) T.m_count_of_rows T.F_count_of_rows.kp T.B_count_of_rows .nil au_ (aa_ (ai_ aW_ (pv 2) ac_) (aa_ (pv 0) ad_))) (aa_ ac_ ad_))) (aH_ _)))).pt (ag_ (iL_ (i:=2) bY_.nd rfl (by trivial) ac_ qG_))))
   (ag_ (ap_ (pv 2))))))), ?_⟩
  refine⟨_,rfl,v,0,3,rfl,ht,fun⟨i,ei,i1,i2⟩=> ?_,fun h=>⟨by decide,ke h⟩⟩;subst ei;obtain⟨k,rfl⟩:=Ak i1;have k3:k<=3:=by lia
  have kk:=kk k rfl k3;obtain⟨sc1,sc2,sc3,sc4,sc5,sc6⟩:=kv_ k (by lia);have lc:=q8_ k (by lia);refine⟨_,rfl, .int k,rfl, .inl ⟨_,rfl⟩,fun k' ek _ t l H1 s1 nl ht1 hl1=> ?_,fun h=>absurd ⟨_,rfl,by lia,by lia⟩ h⟩;obtain rfl:k'=k:=by have:=V.int.inj ek;lia
  refine⟨_,rfl,k',rfl,k3, ?_⟩;refine d5_ (fun σ H2=>∃j:Nat,σ=[some (.int k'),some (.ref t),some (.int j)]/\hC k'<=j/\j<=2*k'+1/\ak_ H1 H2) (fun(σ:L2.St) _=>match σ[2]? with|some (some (V.int j))=>j.toNat|_=>0) ⟨2*k'+1,rfl,sc6,A5 _,ak_.refl _⟩ ?_ ?_
  .rintro σ H2 ⟨j,rfl,j1,j2,s2⟩;refine⟨_,rfl,_,_,rfl,rfl,_,rfl,eS_ (fun h1=> ?_) (fun h1=> ?_)⟩
   .obtain⟨d,hd⟩:∃d:Nat,j=d+1:=⟨j-1,by lia⟩;have ed:(j:Int)-1=(d:Int):=by lia
    refine⟨_,rfl,_,rfl,_,_,rfl,rfl,t,l,pC k',bC k',(d:Int),by show [V.ref t,V.int ((j:Int)-1)]++[]=_;rw [ed];rfl,s2 _ _ ht1,s2 _ _ hl1,⟨by lia,fun x hx=>Ai (sc2 x hx) (by decide),lc.1,by lia⟩,Ai (m:=100) (by lia) (by decide),fun u x y H3 s3 hu vl=> ?_⟩;rw [fD_] at vl;obtain⟨_,_,_,_,c5,c6⟩:=ip_ (d:=d) (k:=k') (by lia) (by lia) k3;refine⟨_,rfl,_,_,rfl,rfl,_,rfl,d,k',by show [V.int ((j:Int)-1),V.int (k':Int)]++[]=_;rw [ed];rfl,by lia,by lia,k3,fun H4 s4=>⟨(by show 2<=sizeLine;decide),fun w hw=> ?_⟩⟩;have hu5:upd H4 w (.tup [.int (fh_ d k'), .int 1]) u=some (.tup [.int x, .int y]):=ak_.new hw _ _ (s4 _ _ hu);refine⟨1,_,il_ hu5 ae_,by decide,_,rfl, ?_⟩;have s25:ak_ H1 (upd H4 w (.tup [.int (fh_ d k'), .int 1])):=((s2.trans s3).trans s4).trans (ak_.new hw);by_cases hh:hC k'<=d
    .have e:=(iz_ (c:=fh_ d k') (by lia) vl).mpr (c5 hh);rw [Ah e.1,Ah e.2];refine ie_ ⟨_,rfl,_,_,rfl,rfl,⟨d,by rw [<-ed];rfl,hh,by lia,s25⟩, ?_⟩;show((j:Int)-1).toNat<(j:Int).toNat;lia
    .have e:¬(x=fh_ d k'/\y=1):=fun z=>c6 (by lia) ((iz_ (c:=fh_ d k') (by lia) vl).mp z);have eb:(decide (x=fh_ d k')&&decide (y=1))=false:=by
      rw [Bool.and_eq_false_iff];by_cases ex:x=fh_ d k'
      .right;exact AR fun ey=>e ⟨ex,ey⟩
      .left;exact AR ex
     rw [eb];refine d0_ ⟨_,rfl, ?_⟩;have:=kk _ (s1.trans s25)
     rwa [show hC k'=j by lia] at this
   .refine d0_ ⟨_,rfl, ?_⟩;have:=kk _ (s1.trans s2)
    rwa [show hC k'=j by lia] at this
  .intro σ H Q1 Q2 k h;obtain⟨v1,e1,i1,j1,e2,e3,b,e4,h⟩:=h;refine⟨v1,e1,i1,j1,e2,e3,b,e4, ?_⟩;cases b with
   |false=>exact d0_ (k _ _ (by simpa using h))
   |true=>
    rw [A9 rfl] at h;obtain⟨v2,e5,v3,e6,i2,j2,e7,e8,t,p,zs,bb,c,e9,h1,h2,gv,hc,h⟩:=h;refine ie_ ⟨v2,e5,v3,e6,i2,j2,e7,e8,t,p,zs,bb,c,e9,h1,h2,gv,hc,fun u x y H' s' hu vl=> ?_⟩;obtain⟨v4,e10,i3,j3,e11,e12,v5,e13,d,k0,e14,d1,d2,d3,h⟩:=h u x y H' s' hu vl;refine⟨v4,e10,i3,j3,e11,e12,v5,e13,d,k0,e14,d1,d2,d3,fun H'' s''=> ?_⟩;obtain⟨sz,h⟩:=h H'' s'';refine⟨sz,fun w hw=> ?_⟩;obtain⟨n,b2,er,hn,b3,eb,h⟩:=h w hw;exact⟨n,b2,er,hn,b3,eb,k _ _ h⟩
def sG_ (_:W.Frag):Sp:=fun vs H Q _=>∃(z:Int) (v:V),vs=[.int z,v]/\ix_ H v/\¬Within 0 3 v/\∀H',ak_ H H'->Q (.bl true) H'
def ry_ (_:W.Frag):Sp:=fun vs H Q _=>∃(k:Nat) (D:Int) (u:Addr) (x y:Int),vs=[.int k, .int D, .ref u]/\H u=some (.tup [.int x, .int y])/\Vl (ev (pC k) D) (bC k) x y/\0<=D/\D<=10^12/\k<=3/\∀H',ak_ H H'->Q (.bl true) H'
theorem cH_:FnOk P w K mg base CX0 15 T.f__law_refused T.d__law_refused ["_law_what","_law_k"] (sG_ K):=by
 refine T.F__law_refused.oky cF_ (fun vs H Q E h=> ?_) (fun cdv A outer s H vs Q E hr h hF=> ?_)
 .obtain⟨_,_,rfl,_⟩:=h;rfl
 .obtain⟨z,v,rfl,hv,hn,kk⟩:=h;refine⟨_,(af_ (p8_ (i:=2) hF rfl cF_.nd rfl (by trivial) rfl (by rfl) T.m_CurveError (fun E pn z hp=>(ag_ (b5_ (aA_ eE_ (pv 0) ac_ (aH_ _)) (ag_ (bM_ (ah_ (bV_ T) (hr.mono (by decide)) (by rfl) T.m_polynomial_of T.F_polynomial_of.kp T.B_polynomial_of .nil hp (aa_ (pv 1) ad_)))) (ag_ (bM_ (ah_ (dn_ T) (hr.mono (by decide)) (by rfl) T.m_holds_from T.F_holds_from.kp T.B_holds_from .nil hp (aa_ (pv 1) ad_))))))) (fun e=>(af_ (b5_ (fs_ (aB_ (j2_ (K:=K) rfl) (by rfl) T.n_isinstance CP (aa_ (pv 2) (aa_ (ce_ (aa_ (ex_ (v:= .ref T.c_NoDrawing) (by rfl) T.m_NoDrawing (by rfl)) (aa_ (ex_ (v:= .ref T.c_NoEnds) (by rfl) T.m_NoEnds (by rfl)) (aa_ (ex_ (v:= .ref T.c_NoNumber) (by rfl) T.m_NoNumber (by rfl)) (aa_ (ex_ (v:= .ref T.c_NoText) (by rfl) T.m_NoText (by rfl)) ad_))))) ad_)))) (ag_ (ap_ h5_)) aP_)
   (ag_ (ap_ (iQ_ (aB_ (hy_ (K:=K) rfl) (by rfl) T.n_isinstance CP (aa_ (pv 2) (aa_ (ex_ (v:= .ref T.c_NoBound) (by rfl) T.m_NoBound (by rfl)) ad_))) (iN_ (aB_ (hy_ (K:=K) rfl) (by rfl) T.n_isinstance CP (aa_ (pv 2) (aa_ (eA_ (v:= .ty "ValueError") (by rfl) T.n_ValueError PyProof.Rows.Boot.«ValueError» (by rfl)) ad_))))))))))
   (ag_ (ap_ h5_))), ?_⟩
  refine⟨fun C _ H'=>C= .ref T.c_NoBound/\ak_ H H', ?_,fun C e H' ⟨eC,sH⟩ he=> ?_⟩
  .refine⟨_,rfl,rfl,_,rfl,lA_ (fun _=> ?_) (fun _=> ?_)⟩
   .exact⟨_,rfl,v,rfl,hv,fun k ek k3=>absurd ⟨_,ek,by lia,by lia⟩ hn,fun _=>⟨rfl,ak_.refl _⟩⟩
   .exact⟨_,rfl,v,rfl,hv,fun k ek k3=>absurd ⟨_,ek,by lia,by lia⟩ hn,fun _=>⟨rfl,ak_.refl _⟩⟩
  cases eC;refine⟨T.e_NoBound_CurveError,_,rfl,(by show 4<=sizeLine;decide),fun t H2 nt s2 ht2=> ?_⟩;have hx:=s2 _ _ (ae_ (H:=H') (a:=e) (o:=m0_ T.c_NoBound e));refine⟨e,_,t,_,_,false,rfl,hx,T.X_NoBound,ht2,rfl,T.ks_NoBound_0,false,rfl,d0_ ?_⟩;refine⟨_,rfl,e,_, .ref T.c_NoBound,_,true,rfl,hx,T.X_NoBound,rfl,T.k_NoBound_NoBound,true,rfl,ie_ ?_⟩;exact⟨_,rfl,e,_, .ty "ValueError",_,true,rfl,hx,T.X_NoBound,rfl,T.k_NoBound_ValueError,kk _ ((sH.trans (ak_.new he)).trans s2)⟩
theorem fL_ {K:W.Frag}{H:Hp}{a b:Addr}{x y c s m:Int} (hm:0<m) (h:H a=some (.tup [.int x, .int y])) (k:H b=some (.tup [.int c, .int 1])) (vl:Vl s m x y) (e:s=c*m):EqR K H 1 (.ref a) (.ref b) true:=by
 have r:=il_ (K:=K) h k;obtain⟨e1,e2⟩:=(iz_ hm vl).mpr e
 rwa [Ah e1,Ah e2] at r
theorem kg_ {K:W.Frag}{H:Hp}{a b:Addr}{x y c s m:Int} (hm:0<m) (h:H a=some (.tup [.int x, .int y])) (k:H b=some (.tup [.int c, .int 1])) (vl:Vl s m x y) (e:s≠c*m):EqR K H 1 (.ref a) (.ref b) false:=by
 have r:=il_ (K:=K) h k;have z:¬(x=c/\y=1):=fun q=>e ((iz_ hm vl).mp q);have eb:(decide (x=c)&&decide (y=1))=false:=by
  rw [Bool.and_eq_false_iff];by_cases ex:x=c
  .right;exact AR fun ey=>z ⟨ex,ey⟩
  .left;exact AR ex
 rwa [eb] at r
theorem hE_ {x:Int}{n:Nat} (h:x.natAbs<=2^n) (hn:n<512):x.natAbs<2^512:=Br h (Cm (by decide) hn)
theorem ev3 (D:Int):ev (pC 3) D=hor D [9,-54,9,423,-458,-829,1050]:=by
 have:=fD_ D (pC 3);rw [<-this];rfl
theorem even2 (D : Int) : (3 * (D - 1) * (D - 2) * (3 * D * D - 3 * D - 11)) = (3 * (D - 1) * (D - 2) * (3 * D * D - 3 * D - 11)) / 2 * 2 := by
  have h : ∃ q : Int, (D - 1) * (D - 2) = 2 * q := by
    rcases Int.emod_two_eq D with e | e
    . exact ⟨(D - 1) * (D / 2 - 1), by have : D = 2 * (D / 2) := by lia
                                       grind⟩
    . exact ⟨(D / 2) * (D - 2), by have : D = 2 * (D / 2) + 1 := by lia
                                   grind⟩
  obtain ⟨q, hq⟩ := h;have e : (3 * (D - 1) * (D - 2) * (3 * D * D - 3 * D - 11)) = 2 * (3 * q * (3 * D * D - 3 * D - 11)) := by
    have : 3 * (D - 1) * (D - 2) = 3 * ((D - 1) * (D - 2)) := by grind
    rw [this, hq]
    grind
  rw [e];lia
theorem r2_ (D:Int):hor D [9,-54,9,423,-458,-829,1050]=hor D [9,-54,9,423,-458,-829,1050]/2*2:=by
 have h:∃q:Int,hor D [9,-54,9,423,-458,-829,1050]=2*q:=by
  rcases Int.emod_two_eq D with e|e
  .obtain⟨m,hm⟩:∃m,D=2*m:=⟨D/2,by lia⟩;subst hm;refine⟨((((((9*(2*m)+ -54)*(2*m)+9)*(2*m)+423)*(2*m)+ -458)*(2*m))+ -829)*m+525, ?_⟩;show((((((0*(2*m)+9)*(2*m)+ -54)*(2*m)+9)*(2*m)+423)*(2*m)+ -458)*(2*m)+ -829)*(2*m)+1050=_
   grind
  .obtain⟨m,hm⟩:∃m,D=2*m+1:=⟨D/2,by lia⟩;subst hm;refine⟨288*(m*m*m*m*m*m)-1008*(m*m*m*m)+396*(m*m*m)+920*(m*m)-656*m+75, ?_⟩;show((((((0*(2*m+1)+9)*(2*m+1)+ -54)*(2*m+1)+9)*(2*m+1)+423)*(2*m+1)+ -458)*(2*m+1)+ -829)*(2*m+1)+1050=_
   grind
 obtain⟨q,hq⟩:=h;rw [hq];lia
theorem f5_:FnOk P w K mg base CX0 1 T.f__law_known T.d__law_known ["_law_k","_law_d","_law_told"] (ry_ K):=by
 refine T.F__law_known.ok bZ_ (fun vs H Q E h=> ?_) (fun cdv A outer s H vs Q E hr h=> ?_)
 .obtain⟨_,_,_,_,_,rfl,_⟩:=h;rfl
 .obtain⟨k,D,u,x,y,rfl,hu,vl,D0,D1,k3,kk⟩:=h;refine⟨_,(af_ (b5_ (aA_ eE_ (pv 0) ac_ (aH_ _)) (ag_ (ap_ (ey_ (fu_ hr) (pv 2) (cX_ (aa_ (ai_ (bs_ dx_) (ai_ (bs_ dx_) ac_ (ai_ aW_ (pv 1) ac_)) (ai_ aW_ (pv 1) ac_)) (aa_ ac_ ad_))) (aH_ _)))) aP_)
   (af_ (b5_ (aA_ eE_ (pv 0) ac_ (aH_ _)) (ag_ (ap_ (ey_ (fu_ hr) (pv 2) (cX_ (aa_ (ai_ f2_ (ai_ (bs_ dx_) (ai_ (bs_ dx_) (ai_ (bs_ dx_) ac_ (ai_ aW_ (pv 1) ac_)) (ai_ aW_ (pv 1) ac_)) (ai_ aW_ (ai_ aW_ (ai_ (bs_ dx_) (ai_ (bs_ dx_) ac_ (pv 1)) (pv 1)) (ai_ (bs_ dx_) ac_ (pv 1))) ac_)) ac_) (aa_ ac_ ad_))) (aH_ _)))) aP_)
   (af_ (b5_ (aA_ eE_ (pv 0) ac_ (aH_ _)) (af_ (as_ (i:=3) bZ_.nd rfl (by trivial) ac_)
   (af_ (bd_ AS rfl (a9_ (cY_ (aa_ ac_ (aa_ (h4_ en_ ac_) (aa_ ac_ (aa_ ac_ (aa_ (h4_ en_ ac_) (aa_ (h4_ en_ ac_) (aa_ ac_ ad_))))))))) (al_ (i:=4) bZ_.nd rfl (by trivial)) (ag_ (as_ (i:=3) bZ_.nd rfl (by trivial) (ai_ aE_ (ai_ (bs_ dx_) (pv 3) (pv 1)) (pv 4)))))
   (ag_ (ap_ (ey_ (fu_ hr) (pv 2) (cX_ (aa_ (ai_ f2_ (pv 3) ac_) (aa_ ac_ ad_))) (aH_ _)))))) aP_)
   (ag_ (ap_ (ey_ (fu_ hr) (pv 2) (cX_ (aa_ ac_ (aa_ ac_ ad_))) (aH_ _))))))), ?_⟩
  have d40:D.natAbs<=2^41:=by lia
  have d1:(D-1).natAbs<=2^41:=by lia
  have d2:(D-2).natAbs<=2^41:=by lia
  have c3:(3:Int).natAbs<=2^2:=by decide
  have fin:∀(c:Int),ev (pC k) D=c*bC k->∀t,H t=none->∃d e,EqR K (upd H t (.tup [.int c, .int 1])) d (.ref u) (.ref t) e/\d<=8/\Q (.bl (if false=true then !e else e)) (upd H t (.tup [.int c, .int 1])):=fun c hc t nt=>
   ⟨1,true,fL_ (by have:=(q8_ k (by lia)).1;lia) (ak_.new nt _ _ hu) ae_ vl hc,by decide,kk _ (ak_.new nt)⟩
  refine⟨_,rfl,rfl,_,rfl,lA_ (fun e=> ?_) (fun e1=> ?_)⟩
  .obtain rfl:k=1:=by lia
   have m1:(3*(D-1)).natAbs<=2^43:=b6_ c3 d1 (by decide);refine⟨_,rfl,_,rfl,_,_,rfl,rfl,_,_,rfl,rfl,⟨hE_ c3 (by decide),hE_ d1 (by decide)⟩,_,rfl,_,_,rfl,rfl,_,_,rfl,rfl,⟨hE_ m1 (by decide),hE_ d1 (by decide)⟩,(by show 2<=sizeLine;decide),fun t nt=>fin _ ?_ t nt⟩;show 3+D*(-6+D*(3+D*0))=3*(D-1)*(D-1)*1
   grind
  refine⟨_,rfl,rfl,_,rfl,lA_ (fun e=> ?_) (fun e2=> ?_)⟩
  .obtain rfl:k=2:=by lia
   have m1:(3*(D-1)).natAbs<=2^43:=b6_ c3 d1 (by decide);have m2:(3*(D-1)*(D-2)).natAbs<=2^84:=b6_ m1 d2 (by decide);have m3:(3*D).natAbs<=2^43:=b6_ c3 d40 (by decide);have m4:(3*D*D).natAbs<=2^84:=b6_ m3 d40 (by decide);have m5:(3*D*D-3*D-11).natAbs<=2^86:=by lia
   refine⟨_,rfl,_,rfl,_,_,rfl,rfl,_,_,rfl,rfl,⟨hE_ c3 (by decide),hE_ d1 (by decide)⟩,_,rfl,_,_,rfl,rfl,_,_,rfl,rfl,⟨hE_ m1 (by decide),hE_ d2 (by decide)⟩, ?_⟩;refine⟨_,rfl,_,_,rfl,rfl,⟨hE_ c3 (by decide),hE_ d40 (by decide)⟩,_,rfl,_,_,rfl,rfl,⟨hE_ m3 (by decide),hE_ d40 (by decide)⟩,_,rfl,_,_,rfl,rfl,⟨hE_ c3 (by decide),hE_ d40 (by decide)⟩,_,_,rfl,rfl,_,_,rfl,rfl,_,_,rfl,rfl,⟨hE_ m2 (by decide),hE_ m5 (by decide)⟩,_,_,rfl,rfl,⟨by decide,by decide⟩,(by show 2<=sizeLine;decide),fun t nt=>fin _ ?_ t nt⟩;show ev (pC 2) D=(3*(D-1)*(D-2)*(3*D*D-3*D-11))/2*2;rw [<-even2];show -66+D*(81+D*(12+D*(-36+D*(9+D*0))))=_
   grind
  refine⟨_,rfl,rfl,_,rfl,lA_ (fun e=> ?_) (fun e3=> ?_)⟩
  .obtain rfl:k=3:=by lia
   refine⟨_,rfl,_,rfl,_,rfl,(by show 7<=sizeLine;decide),fun q nq=> ?_⟩;have s1:ak_ H (upd H q (.lst (([9,-54,9,423,-458,-829,1050]:List Int).map V.int))):=ak_.new nq;have hq1:upd H q (.lst (([9,-54,9,423,-458,-829,1050]:List Int).map V.int)) q=some (.lst (([9,-54,9,423,-458,-829,1050]:List Int).map V.int)):=ae_;refine⟨q,rfl,⟨_,SqL.of hq1⟩,b0_ (xs:=([9,-54,9,423,-458,-829,1050]:List Int).map V.int) (fun i σ H2=>(∃v4,σ=[some (.int 3),some (.int D),some (.ref u),some (.int (hor D (([9,-54,9,423,-458,-829,1050]:List Int).take i))),v4])/\H2=upd H q (.lst (([9,-54,9,423,-458,-829,1050]:List Int).map V.int))) ⟨⟨none,rfl⟩,rfl⟩ (fun i σ H2 _ h=>by rw [h.2];exact SqL.of hq1) ?_ ?_⟩
   .rintro i v σ H2 hi ⟨⟨v4,rfl⟩,rfl⟩;rw [A6] at hi;obtain⟨z,hz,rfl⟩:=A4.mp hi;have il:i<7:=(AC.mp hz).1;have hb:=nH_ (a:=D) (l:=[9,-54,9,423,-458,-829,1050]) (p:=41) (q:=11) d40 (by
     have:∀x∈([9,-54,9,423,-458,-829,1050]:List Int),x.natAbs<=2^11:=by decide
     exact this) i (by show i<=7;lia)
    refine⟨_,rfl,_,rfl,_,_,rfl,rfl,⟨Br hb (Cm (by decide) (by lia)),hE_ d40 (by decide)⟩,_,rfl,_,_,rfl,rfl,⟨some (.int z), ?_⟩,rfl⟩;rw [AM,hz];show _=[_,_,_,some (V.int (hor D (_++[z]))),_];rw [ds_];rfl
   .rintro σ H2 ⟨⟨v4,rfl⟩,rfl⟩;refine⟨_,rfl,_,rfl,_,_,rfl,rfl,⟨by decide,by decide⟩,(by show 2<=sizeLine;decide),fun t nt=> ?_⟩;refine⟨1,true,fL_ (m:=2) (by decide) (ak_.new nt _ _ (s1 _ _ hu)) ae_ vl ?_,by decide,kk _ (s1.trans (ak_.new nt))⟩;rw [ev3];exact r2_ D
  .obtain rfl:k=0:=by lia
   refine⟨_,rfl,(by show 2<=sizeLine;decide),fun t nt=>fin 1 ?_ t nt⟩;show 1+D*0=1*1;lia
theorem qo_ {far c:Int} (hf:4<=far) (c0:0<=c) (c1:c<6):∃v,atI [V.int 4, .int (-1), .bl true, .non, .str (Str.ofString "2"), .int far] c=some v/\(∀{H'},ix_ H' v)/\¬Within 0 3 v:=by
 have:c=0\/c=1\/c=2\/c=3\/c=4\/c=5:=by lia
 rcases this with e|e|e|e|e|e<;>subst e
 .exact⟨_,rfl, .inl ⟨_,rfl⟩,fun⟨i,e,a,b⟩=>by cases e;lia⟩
 .exact⟨_,rfl, .inl ⟨_,rfl⟩,fun⟨i,e,a,b⟩=>by cases e;lia⟩
 .exact⟨_,rfl, .inr (.inl ⟨_,rfl⟩),fun⟨i,e,_⟩=>nomatch e⟩
 .exact⟨_,rfl, .inr (.inr (.inl rfl)),fun⟨i,e,_⟩=>nomatch e⟩
 .exact⟨_,rfl, .inr (.inr (.inr (.inl ⟨_,rfl⟩))),fun⟨i,e,_⟩=>nomatch e⟩
 .exact⟨_,rfl, .inl ⟨_,rfl⟩,fun⟨i,e,a,b⟩=>by cases e;lia⟩
theorem qn_:FnOk P w K mg base CX0 16 T.f_law T.d_law ["_law_script"] (iC_ K):=by
 refine T.F_law.ok dR_ (fun vs H Q E h=> ?_) (fun cdv A outer s H vs Q E hr h=> ?_)
 .obtain⟨_,_,rfl,_⟩:=h;rfl
 .obtain⟨a,ns,rfl,hS,hl,kk⟩:=h;refine⟨_,(af_ (as_ (i:=1) dR_.nd rfl (by trivial) (ah_ (ia_ T) (hr.mono (by decide)) (by rfl) T.m__law_bag T.F__law_bag.kp T.B__law_bag .nil au_ (aa_ (ah_ (eH_ T) (hr.mono (by decide)) (by rfl) T.m__law_cell_at T.F__law_cell_at.kp T.B__law_cell_at .nil au_ (aa_ (pv 0) (aa_ ac_ ad_))) (aa_ ac_ ad_))))
   (af_ (as_ (i:=2) dR_.nd rfl (by trivial) (ah_ (bD_ T) (hr.mono (by decide)) (by rfl) T.m__law_digit T.F__law_digit.kp T.B__law_digit .nil au_ (aa_ (pv 1) (aa_ ac_ ad_))))
   (af_ (as_ (i:=3) dR_.nd rfl (by trivial) (ah_ (dn_ T) (hr.mono (by decide)) (by rfl) T.m_holds_from T.F_holds_from.kp T.B_holds_from .nil gT_ (aa_ (pv 2) ad_)))
   (af_ (b5_ (kL_ (iK_ (fs_ (aB_ ei_ (by rfl) T.n_isinstance CP (aa_ (pv 3) (aa_ (eA_ (v:= .ty "int") (by rfl) T.n_int boot_int (by rfl)) ad_))))) (kL_ (fs_ (aB_ ei_ (by rfl) T.n_isinstance CP (aa_ (pv 3) (aa_ (eA_ (v:= .ty "bool") (by rfl) T.n_bool boot_bool (by rfl)) ad_)))) (kK_ (iK_ (fX_ h6_ h6_ ac_ (pv 3) ac_))))).pt (ag_ (ap_ h5_)) aP_)
   (af_ (as_ (i:=4) dR_.nd rfl (by trivial) (ah_ (bV_ T) (hr.mono (by decide)) (by rfl) T.m_polynomial_of T.F_polynomial_of.kp T.B_polynomial_of .nil gT_ (aa_ (pv 2) ad_)))
   (af_ (as_ (i:=5) dR_.nd rfl (by trivial) (ai_ aE_ (pv 3) (ah_ (bD_ T) (hr.mono (by decide)) (by rfl) T.m__law_digit T.F__law_digit.kp T.B__law_digit .nil au_ (aa_ (pv 1) (aa_ (ai_ aW_ ac_ (pv 3)) ad_)))))
   (af_ (b5_ (aA_ (ql_ hr) (ah_ (ed_ T) (hr.mono (by decide)) (by rfl) T.m_value T.F_value.kp T.B_value .nil au_ (aa_ (pv 4) (aa_ (pv 5) ad_))) (cX_ (aa_ (ah_ (bR_ T) (hr.mono (by decide)) (by rfl) T.m_count_by_templates T.F_count_by_templates.kp T.B_count_by_templates .nil gT_ (aa_ (pv 5) (aa_ (pv 2) ad_))) (aa_ ac_ ad_))) (aH_ _)) (ag_ (ap_ h5_)) aP_)
   (af_ (p9_ (b5_ (gQ_ (aA_ gV_ (pv 3) ac_ (aH_ _)) (ew_ (aA_ (fu_ hr) (ah_ (ed_ T) (hr.mono (by decide)) (by rfl) T.m_value T.F_value.kp T.B_value .nil au_ (aa_ (pv 4) (aa_ (ai_ aW_ (pv 3) ac_) ad_))) (cX_ (aa_ (ah_ (bR_ T) (hr.mono (by decide)) (by rfl) T.m_count_by_templates T.F_count_by_templates.kp T.B_count_by_templates .nil gT_ (aa_ (ai_ aW_ (pv 3) ac_) (aa_ (pv 2) ad_))) (aa_ ac_ ad_))) (aH_ _)))).pt (ag_ (ap_ h5_)) aP_))
   (af_ (as_ (i:=6) dR_.nd rfl (by trivial) (ah_ (bD_ T) (hr.mono (by decide)) (by rfl) T.m__law_digit T.F__law_digit.kp T.B__law_digit .nil au_ (aa_ (pv 1) (aa_ (ai_ iR_ ac_ ac_) ad_))))
   (af_ (b5_ (iK_ (fs_ (ah_ (f5_ T) (hr.mono (by decide)) (by rfl) T.m__law_known T.F__law_known.kp T.B__law_known .nil au_ (aa_ (pv 2) (aa_ (pv 6) (aa_ (ah_ (ed_ T) (hr.mono (by decide)) (by rfl) T.m_value T.F_value.kp T.B_value .nil au_ (aa_ (pv 4) (aa_ (pv 6) ad_))) ad_)))))) (ag_ (ap_ h5_)) aP_)
   (af_ (as_ (i:=7) dR_.nd rfl (by trivial) (aU_ cg_ (cY_ (aa_ ac_ (aa_ (h4_ en_ ac_) (aa_ h5_ (aa_ qh_ (aa_ kU_ (aa_ (ai_ aE_ ac_ (ah_ (bD_ T) (hr.mono (by decide)) (by rfl) T.m__law_digit T.F__law_digit.kp T.B__law_digit .nil au_ (aa_ (pv 1) (aa_ (ai_ iR_ ac_ ac_) ad_)))) ad_))))))) (ah_ (bD_ T) (hr.mono (by decide)) (by rfl) T.m__law_digit T.F__law_digit.kp T.B__law_digit .nil au_ (aa_ (pv 1) (aa_ ac_ ad_))) (fun _ _=>rfl)))
   (ag_ (ap_ (iQ_ (ah_ (cH_ T) (hr.mono (by decide)) (by rfl) T.m__law_refused T.F__law_refused.kp T.B__law_refused .nil au_ (aa_ ac_ (aa_ (pv 7) ad_))) (iN_ (ah_ (cH_ T) (hr.mono (by decide)) (by rfl) T.m__law_refused T.F__law_refused.kp T.B__law_refused .nil au_ (aa_ ac_ (aa_ (pv 7) ad_)))))))))))))))))), ?_⟩
  refine⟨_,rfl,a,ns,0,rfl,hS,by decide,fun z=>⟨z,1,rfl,by decide,by decide,fun b far st H1 s1 nb hb hf hst=> ?_⟩⟩;refine⟨_,rfl,b,4,far,st,rfl,hb,hf,hst,by decide,by decide,fun x far1 st1 x0 x1 hf1 hst1=> ?_⟩;obtain⟨k,rfl⟩:=Ak x0;have k3:k<=3:=by lia
  obtain⟨sc1,sc2,sc3,sc4,sc5,sc6⟩:=kv_ k (by lia);have lc:=q8_ k (by lia);have gv:Gv (pC k) (bC k):=⟨by lia,fun x hx=>Ai (sc2 x hx) (by decide),lc.1,by lia⟩;have hb1:Bag (upd H1 b (.lst [.int far1, .int st1])) b far1 st1:=ae_;generalize upd H1 b (.lst [.int far1, .int st1])=H2 at hb1⊢;refine⟨_,rfl, .int k,rfl, .inl ⟨_,rfl⟩,fun k2 ek _ H3 s3=> ?_,fun h=>absurd ⟨_,rfl,by lia,by lia⟩ h⟩;obtain rfl:k2=k:=by have:=V.int.inj ek;lia
  refine⟨_,rfl,_,"int",_,true,rfl, .int _,rfl,true,rfl,d0_ ⟨_,rfl,_,"bool",_,false,rfl, .int _,dY_,false,rfl,d0_ ⟨_,rfl,_,_,rfl,rfl,_,rfl,eS_ (fun _=>⟨_,_,rfl,rfl,_,rfl,qF_ (fun h=>absurd (show((hC k2:Nat):Int)<=12 by lia) h) (fun _=> ?_)⟩) (fun h=>absurd (show(1:Int)<=((hC k2:Nat):Int) by lia) h)⟩⟩⟩;refine⟨_,rfl, .int k2,rfl, .inl ⟨_,rfl⟩,fun k' ek _ t l H4 s4 nl ht hl4=> ?_,fun h=>absurd ⟨_,rfl,by lia,by lia⟩ h⟩;obtain rfl:k'=k2:=by have:=V.int.inj ek;lia
  have hb4:Bag H4 b far1 st1:=s4 _ _ (s3 _ _ hb1);have lb:l≠b:=by rintro rfl;rw [show H3 l=_ from s3 _ _ hb1] at nl;cases nl
  have tb:t≠b:=by rintro rfl;rw [show H4 t=_ from hb4] at ht;cases ht
  refine⟨_,rfl,_,rfl,_,rfl,_,_,rfl,rfl,b,_,far1,st1,rfl,hb4,hf1,hst1,by lia,by lia,fun y far5 st5 y0 y1 hf5 hst5=>⟨_,_,rfl,rfl, ?_⟩⟩;have ht5:upd H4 b (.lst [.int far5, .int st5]) t=some (.tup [.ref l, .int (bC k')]):=by rw [aj_ tb];exact ht
  have hl5:upd H4 b (.lst [.int far5, .int st5]) l=some (.lst ((pC k').map V.int)):=by rw [aj_ lb];exact hl4
  have hb5:Bag (upd H4 b (.lst [.int far5, .int st5])) b far5 st5:=ae_;generalize upd H4 b (.lst [.int far5, .int st5])=H5 at ht5 hl5 hb5⊢;obtain⟨d,hd⟩:=Ak (show 0<=((hC k':Nat):Int)+y by lia);refine⟨_,rfl,_,rfl,t,l,pC k',bC k',_,rfl,ht5,hl5,gv,Ai (m:=100) (by lia) (by decide),fun u x y' H6 s6 hu vl=> ?_⟩;rw [fD_,hd] at vl;refine⟨_,rfl,_,rfl,d,k',by show [V.int (((hC k':Nat):Int)+y),V.int (k':Int)]++[]=_;rw [hd];rfl,by lia,by lia,k3,fun H7 s7=>⟨(by show 2<=sizeLine;decide),fun w nw'=> ?_⟩⟩;have s57:ak_ H5 (upd H7 w (.tup [.int (fh_ d k'), .int 1])):=(s6.trans s7).trans (ak_.new nw');refine⟨1,true,fL_ (by lia) (ak_.new nw' _ _ (s7 _ _ hu)) ae_ vl ((ip_ (d:=d) (k:=k') (by lia) (by lia) k3).2.2.2.2.1 (by lia)),by decide,_,rfl,d0_ ?_⟩;generalize upd H7 w (.tup [.int (fh_ d k'), .int 1])=H8 at s57⊢;have ht8:=s57 _ _ ht5;have hl8:=s57 _ _ hl5;have hb8:Bag H8 b far5 st5:=s57 _ _ hb5;have dT_:∀{H9:Hp},ak_ H8 H9->∀R:Hp->Prop,(∀H',R H')->True:=fun _ _ _=>trivial;refine⟨fun σ H9=>σ=[some (.ref a),some (.ref b),some (.int k'),some (.int ((hC k':Nat):Int)),some (.ref t),some (.int (((hC k':Nat):Int)+y)),none,none]/\ak_ H8 H9, ?_, ?_⟩
  .refine⟨_,rfl,_,_,rfl,rfl,_,rfl,eS_ (fun h1=> ?_) (fun h1=> ?_)⟩
   .obtain⟨e,he⟩:∃e:Nat,hC k'=e+1:=⟨hC k'-1,by lia⟩;have ee:((hC k':Nat):Int)-1=(e:Int):=by lia
    refine⟨_,rfl,_,rfl,_,_,rfl,rfl,t,l,pC k',bC k',(e:Int),by show [V.ref t,V.int (((hC k':Nat):Int)-1)]++[]=_;rw [ee];rfl,ht8,hl8,gv,Ai (m:=100) (by lia) (by decide),fun u2 x2 y2 H9 s9 hu2 vl2=> ?_⟩;rw [fD_] at vl2;refine⟨_,rfl,_,_,rfl,rfl,_,rfl,e,k',by show [V.int (((hC k':Nat):Int)-1),V.int (k':Int)]++[]=_;rw [ee];rfl,by lia,by lia,k3,fun H10 s10=>⟨(by show 2<=sizeLine;decide),fun w2 nw2=> ?_⟩⟩;refine⟨1,false,kg_ (by lia) (ak_.new nw2 _ _ (s10 _ _ hu2)) ae_ vl2 ((ip_ (d:=e) (k:=k') (by lia) (by lia) k3).2.2.2.2.2 (by lia)),by decide,_,rfl,d0_ ⟨rfl,(s9.trans s10).trans (ak_.new nw2)⟩⟩
   .exact d0_ ⟨rfl,ak_.refl _⟩
  rintro σ H9 ⟨rfl,s9⟩;have ht9:=s9 _ _ ht8;have hl9:=s9 _ _ hl8;have hb9:Bag H9 b far5 st5:=s9 _ _ hb8;refine⟨_,rfl,10,12,rfl,rfl,⟨by decide,by decide,by decide⟩,b,_,far5,st5,rfl,hb9,hf5,hst5,by decide,by decide,fun D farA stA D0 D1 hfA hstA=> ?_⟩;have D2:D<10^12:=D1;have htA:upd H9 b (.lst [.int farA, .int stA]) t=some (.tup [.ref l, .int (bC k')]):=by rw [aj_ tb];exact ht9
  have hlA:upd H9 b (.lst [.int farA, .int stA]) l=some (.lst ((pC k').map V.int)):=by rw [aj_ lb];exact hl9
  have hbA:Bag (upd H9 b (.lst [.int farA, .int stA])) b farA stA:=ae_;generalize upd H9 b (.lst [.int farA, .int stA])=HA at htA hlA hbA⊢;refine⟨_,rfl,_,rfl,_,rfl,_,rfl,t,l,pC k',bC k',D,rfl,htA,hlA,gv,by lia,fun u3 x3 y3 HB sB hu3 vl3=> ?_⟩;rw [fD_] at vl3;refine⟨k',D,u3,x3,y3,rfl,hu3,vl3,D0,by lia,k3,fun HC sC=>⟨true,rfl,d0_ ?_⟩⟩;have hbC:Bag HC b farA stA:=sC _ _ (sB _ _ hbA);refine⟨_,rfl,_,rfl,10,20,rfl,rfl,⟨by decide,by decide,by decide⟩,b,_,farA,stA,rfl,hbC,hfA,hstA,by decide,by decide,fun g farD stD g0 g1 hfD hstD=>⟨_,_,rfl,rfl,(by show 6<=sizeLine;decide),fun q nq=> ?_⟩⟩;have qb:q≠b:=by rintro rfl;rw [ae_] at nq;cases nq
  have hbE:Bag (upd (upd HC b (.lst [.int farD, .int stD])) q (.lst [.int 4, .int (-1), .bl true, .non, .str (Str.ofString "2"), .int (4+g)])) b farD stD:=by unfold Bag;rw [aj_ qb.symm,ae_]
  refine⟨_,rfl,b,6,farD,stD,rfl,hbE,hfD,hstD,by decide,by decide,fun c farF stF c0 c1 hfF hstF=> ?_⟩;obtain⟨v,hv,tv,w3⟩:=qo_ (far:=4+g) (by lia) c0 c1;refine⟨q,_,c,v,rfl,rfl,SqL.of (by rw [aj_ qb];exact ae_),hv, ?_⟩;refine⟨_,rfl,0,v,rfl,tv,w3,fun HG sG=>⟨true,rfl,ie_ ?_⟩⟩;exact⟨_,rfl,1,v,rfl,tv,w3,fun HI sI=>kk _⟩
end
theorem us1 {α:Type}{Q:List α->Prop} (h:∀x0,Q [x0]):∀us:List α,us.length=1->Q us
 :=by
 intro us hl;rcases us with _|⟨x0,us⟩
 .simp at hl
 rcases us with _|⟨y,us⟩
 .exact h x0
 .simp at hl
theorem us2 {α:Type}{Q:List α->Prop} (h:∀x0 x1,Q [x0,x1]):∀us:List α,us.length=2->Q us
 :=by
 intro us hl;rcases us with _|⟨x0,us⟩
 .simp at hl
 rcases us with _|⟨x1,us⟩
 .simp at hl
 rcases us with _|⟨y,us⟩
 .exact h x0 x1
 .simp at hl
theorem us3 {α:Type}{Q:List α->Prop} (h:∀x0 x1 x2,Q [x0,x1,x2]):∀us:List α,us.length=3->Q us
 :=by
 intro us hl;rcases us with _|⟨x0,us⟩
 .simp at hl
 rcases us with _|⟨x1,us⟩
 .simp at hl
 rcases us with _|⟨x2,us⟩
 .simp at hl
 rcases us with _|⟨y,us⟩
 .exact h x0 x1 x2
 .simp at hl
theorem us4 {α:Type}{Q:List α->Prop} (h:∀x0 x1 x2 x3,Q [x0,x1,x2,x3]):∀us:List α,us.length=4->Q us
 :=by
 intro us hl;rcases us with _|⟨x0,us⟩
 .simp at hl
 rcases us with _|⟨x1,us⟩
 .simp at hl
 rcases us with _|⟨x2,us⟩
 .simp at hl
 rcases us with _|⟨x3,us⟩
 .simp at hl
 rcases us with _|⟨y,us⟩
 .exact h x0 x1 x2 x3
 .simp at hl
theorem q1_ {l:W.OpenLaw}{w:World}{K:W.Frag}{h:Heap}{mg:Str->Option Value}{fa:Addr} (X:K.In h) (G:h.Ns mainGlobals mg) (hfa:mg "law"=some (.ref fa))
  {f0:Addr}{od0 an0:Option Addr}{sl0:Array (Option Value)}{oc0 kV0 dc0 pm0 cd0 ct0:Value}
  (a0:W.nsIn K mainGlobals "is_whole"=some (some (.ref f0))) (l0:K.lookup f0=some ⟨oc0,od0, .func (W.fnOf "is_whole" "is_whole" (an_ b2_) (am_ b2_) (ab_ b2_) .none kV0 dc0 pm0 an0 cd0 ct0),sl0⟩) (c0:W.codeIn K cd0 "is_whole"=true) (k0:W.keepIn K (.ref f0)=true)
  {f1:Addr}{od1 an1:Option Addr}{sl1:Array (Option Value)}{oc1 kV1 dc1 pm1 cd1 ct1:Value}
  (a1:W.nsIn K mainGlobals "need_between"=some (some (.ref f1))) (l1:K.lookup f1=some ⟨oc1,od1, .func (W.fnOf "need_between" "need_between" (an_ a6_) (am_ a6_) (ab_ a6_) .none kV1 dc1 pm1 an1 cd1 ct1),sl1⟩) (c1:W.codeIn K cd1 "need_between"=true) (k1:W.keepIn K (.ref f1)=true)
  {f2:Addr}{od2 an2:Option Addr}{sl2:Array (Option Value)}{oc2 kV2 dc2 pm2 cd2 ct2:Value}
  (a2:W.nsIn K mainGlobals "without_last_noughts"=some (some (.ref f2))) (l2:K.lookup f2=some ⟨oc2,od2, .func (W.fnOf "without_last_noughts" "without_last_noughts" (an_ aw_) (am_ aw_) (ab_ aw_) .none kV2 dc2 pm2 an2 cd2 ct2),sl2⟩) (c2:W.codeIn K cd2 "without_last_noughts"=true) (k2:W.keepIn K (.ref f2)=true)
  {f3:Addr}{od3 an3:Option Addr}{sl3:Array (Option Value)}{oc3 kV3 dc3 pm3 cd3 ct3:Value}
  (a3:W.nsIn K mainGlobals "sum_by_place"=some (some (.ref f3))) (l3:K.lookup f3=some ⟨oc3,od3, .func (W.fnOf "sum_by_place" "sum_by_place" (an_ a5_) (am_ a5_) (ab_ a5_) .none kV3 dc3 pm3 an3 cd3 ct3),sl3⟩) (c3:W.codeIn K cd3 "sum_by_place"=true) (k3:W.keepIn K (.ref f3)=true)
  {f4:Addr}{od4 an4:Option Addr}{sl4:Array (Option Value)}{oc4 kV4 dc4 pm4 cd4 ct4:Value}
  (a4:W.nsIn K mainGlobals "product_by_place"=some (some (.ref f4))) (l4:K.lookup f4=some ⟨oc4,od4, .func (W.fnOf "product_by_place" "product_by_place" (an_ aI_) (am_ aI_) (ab_ aI_) .none kV4 dc4 pm4 an4 cd4 ct4),sl4⟩) (c4:W.codeIn K cd4 "product_by_place"=true) (k4:W.keepIn K (.ref f4)=true)
  {f5:Addr}{od5 an5:Option Addr}{sl5:Array (Option Value)}{oc5 kV5 dc5 pm5 cd5 ct5:Value}
  (a5:W.nsIn K mainGlobals "with_more"=some (some (.ref f5))) (l5:K.lookup f5=some ⟨oc5,od5, .func (W.fnOf "with_more" "with_more" (an_ bK_) (am_ bK_) (ab_ bK_) .none kV5 dc5 pm5 an5 cd5 ct5),sl5⟩) (c5:W.codeIn K cd5 "with_more"=true) (k5:W.keepIn K (.ref f5)=true)
  {f6:Addr}{od6 an6:Option Addr}{sl6:Array (Option Value)}{oc6 kV6 dc6 pm6 cd6 ct6:Value}
  (a6:W.nsIn K mainGlobals "common_divisor"=some (some (.ref f6))) (l6:K.lookup f6=some ⟨oc6,od6, .func (W.fnOf "common_divisor" "common_divisor" (an_ aR_) (am_ aR_) (ab_ aR_) .none kV6 dc6 pm6 an6 cd6 ct6),sl6⟩) (c6:W.codeIn K cd6 "common_divisor"=true) (k6:W.keepIn K (.ref f6)=true)
  {f7:Addr}{od7 an7:Option Addr}{sl7:Array (Option Value)}{oc7 kV7 dc7 pm7 cd7 ct7:Value}
  (a7:W.nsIn K mainGlobals "lowering"=some (some (.ref f7))) (l7:K.lookup f7=some ⟨oc7,od7, .func (W.fnOf "lowering" "lowering" (an_ b1_) (am_ b1_) (ab_ b1_) .none kV7 dc7 pm7 an7 cd7 ct7),sl7⟩) (c7:W.codeIn K cd7 "lowering"=true) (k7:W.keepIn K (.ref f7)=true)
  {f8:Addr}{od8 an8:Option Addr}{sl8:Array (Option Value)}{oc8 kV8 dc8 pm8 cd8 ct8:Value}
  (a8:W.nsIn K mainGlobals "poly"=some (some (.ref f8))) (l8:K.lookup f8=some ⟨oc8,od8, .func (W.fnOf "poly" "poly" (an_ es_) (am_ es_) (ab_ es_) .none kV8 dc8 pm8 an8 cd8 ct8),sl8⟩) (c8:W.codeIn K cd8 "poly"=true) (k8:W.keepIn K (.ref f8)=true)
  {f9:Addr}{od9 an9:Option Addr}{sl9:Array (Option Value)}{oc9 kV9 dc9 pm9 cd9 ct9:Value}
  (a9:W.nsIn K mainGlobals "plus"=some (some (.ref f9))) (l9:K.lookup f9=some ⟨oc9,od9, .func (W.fnOf "plus" "plus" (an_ dS_) (am_ dS_) (ab_ dS_) .none kV9 dc9 pm9 an9 cd9 ct9),sl9⟩) (c9:W.codeIn K cd9 "plus"=true) (k9:W.keepIn K (.ref f9)=true)
  {f10:Addr}{od10 an10:Option Addr}{sl10:Array (Option Value)}{oc10 kV10 dc10 pm10 cd10 ct10:Value}
  (a10:W.nsIn K mainGlobals "times"=some (some (.ref f10))) (l10:K.lookup f10=some ⟨oc10,od10, .func (W.fnOf "times" "times" (an_ dF_) (am_ dF_) (ab_ dF_) .none kV10 dc10 pm10 an10 cd10 ct10),sl10⟩) (c10:W.codeIn K cd10 "times"=true) (k10:W.keepIn K (.ref f10)=true)
  {f11:Addr}{od11 an11:Option Addr}{sl11:Array (Option Value)}{oc11 kV11 dc11 pm11 cd11 ct11:Value}
  (a11:W.nsIn K mainGlobals "value"=some (some (.ref f11))) (l11:K.lookup f11=some ⟨oc11,od11, .func (W.fnOf "value" "value" (an_ dE_) (am_ dE_) (ab_ dE_) .none kV11 dc11 pm11 an11 cd11 ct11),sl11⟩) (c11:W.codeIn K cd11 "value"=true) (k11:W.keepIn K (.ref f11)=true)
  {f12:Addr}{od12 an12:Option Addr}{sl12:Array (Option Value)}{oc12 kV12 dc12 pm12 cd12 ct12:Value}
  (a12:W.nsIn K mainGlobals "through"=some (some (.ref f12))) (l12:K.lookup f12=some ⟨oc12,od12, .func (W.fnOf "through" "through" (an_ b4_) (am_ b4_) (ab_ b4_) .none kV12 dc12 pm12 an12 cd12 ct12),sl12⟩) (c12:W.codeIn K cd12 "through"=true) (k12:W.keepIn K (.ref f12)=true)
  {f13:Addr}{od13 an13:Option Addr}{sl13:Array (Option Value)}{oc13 kV13 dc13 pm13 cd13 ct13:Value}
  (a13:W.nsIn K mainGlobals "lost"=some (some (.ref f13))) (l13:K.lookup f13=some ⟨oc13,od13, .func (W.fnOf "lost" "lost" (an_ fq_) (am_ fq_) (ab_ fq_) .none kV13 dc13 pm13 an13 cd13 ct13),sl13⟩) (c13:W.codeIn K cd13 "lost"=true) (k13:W.keepIn K (.ref f13)=true)
  {f14:Addr}{od14 an14:Option Addr}{sl14:Array (Option Value)}{oc14 kV14 dc14 pm14 cd14 ct14:Value}
  (a14:W.nsIn K mainGlobals "worth"=some (some (.ref f14))) (l14:K.lookup f14=some ⟨oc14,od14, .func (W.fnOf "worth" "worth" (an_ dD_) (am_ dD_) (ab_ dD_) .none kV14 dc14 pm14 an14 cd14 ct14),sl14⟩) (c14:W.codeIn K cd14 "worth"=true) (k14:W.keepIn K (.ref f14)=true)
  {f15:Addr}{od15 an15:Option Addr}{sl15:Array (Option Value)}{oc15 kV15 dc15 pm15 cd15 ct15:Value}
  (a15:W.nsIn K mainGlobals "choose"=some (some (.ref f15))) (l15:K.lookup f15=some ⟨oc15,od15, .func (W.fnOf "choose" "choose" (an_ cO_) (am_ cO_) (ab_ cO_) .none kV15 dc15 pm15 an15 cd15 ct15),sl15⟩) (c15:W.codeIn K cd15 "choose"=true) (k15:W.keepIn K (.ref f15)=true)
  {f16:Addr}{od16 an16:Option Addr}{sl16:Array (Option Value)}{oc16 kV16 dc16 pm16 cd16 ct16:Value}
  (a16:W.nsIn K mainGlobals "put_between"=some (some (.ref f16))) (l16:K.lookup f16=some ⟨oc16,od16, .func (W.fnOf "put_between" "put_between" (an_ bp_) (am_ bp_) (ab_ bp_) .none kV16 dc16 pm16 an16 cd16 ct16),sl16⟩) (c16:W.codeIn K cd16 "put_between"=true) (k16:W.keepIn K (.ref f16)=true)
  {f17:Addr}{od17 an17:Option Addr}{sl17:Array (Option Value)}{oc17 kV17 dc17 pm17 cd17 ct17:Value}
  (a17:W.nsIn K mainGlobals "how_many_orders"=some (some (.ref f17))) (l17:K.lookup f17=some ⟨oc17,od17, .func (W.fnOf "how_many_orders" "how_many_orders" (an_ aK_) (am_ aK_) (ab_ aK_) .none kV17 dc17 pm17 an17 cd17 ct17),sl17⟩) (c17:W.codeIn K cd17 "how_many_orders"=true) (k17:W.keepIn K (.ref f17)=true)
  {f18:Addr}{od18 an18:Option Addr}{sl18:Array (Option Value)}{oc18 kV18 dc18 pm18 cd18 ct18:Value}
  (a18:W.nsIn K mainGlobals "length"=some (some (.ref f18))) (l18:K.lookup f18=some ⟨oc18,od18, .func (W.fnOf "length" "length" (an_ cs_) (am_ cs_) (ab_ cs_) .none kV18 dc18 pm18 an18 cd18 ct18),sl18⟩) (c18:W.codeIn K cd18 "length"=true) (k18:W.keepIn K (.ref f18)=true)
  {f19:Addr}{od19 an19:Option Addr}{sl19:Array (Option Value)}{oc19 kV19 dc19 pm19 cd19 ct19:Value}
  (a19:W.nsIn K mainGlobals "long_lifts"=some (some (.ref f19))) (l19:K.lookup f19=some ⟨oc19,od19, .func (W.fnOf "long_lifts" "long_lifts" (an_ bi_) (am_ bi_) (ab_ bi_) .none kV19 dc19 pm19 an19 cd19 ct19),sl19⟩) (c19:W.codeIn K cd19 "long_lifts"=true) (k19:W.keepIn K (.ref f19)=true)
  {f20:Addr}{od20 an20:Option Addr}{sl20:Array (Option Value)}{oc20 kV20 dc20 pm20 cd20 ct20:Value}
  (a20:W.nsIn K mainGlobals "losing"=some (some (.ref f20))) (l20:K.lookup f20=some ⟨oc20,od20, .func (W.fnOf "losing" "losing" (an_ cN_) (am_ cN_) (ab_ cN_) .none kV20 dc20 pm20 an20 cd20 ct20),sl20⟩) (c20:W.codeIn K cd20 "losing"=true) (k20:W.keepIn K (.ref f20)=true)
  {f21:Addr}{od21 an21:Option Addr}{sl21:Array (Option Value)}{oc21 kV21 dc21 pm21 cd21 ct21:Value}
  (a21:W.nsIn K mainGlobals "lies_within"=some (some (.ref f21))) (l21:K.lookup f21=some ⟨oc21,od21, .func (W.fnOf "lies_within" "lies_within" (an_ aX_) (am_ aX_) (ab_ aX_) .none kV21 dc21 pm21 an21 cd21 ct21),sl21⟩) (c21:W.codeIn K cd21 "lies_within"=true) (k21:W.keepIn K (.ref f21)=true)
  {f22:Addr}{od22 an22:Option Addr}{sl22:Array (Option Value)}{oc22 kV22 dc22 pm22 cd22 ct22:Value}
  (a22:W.nsIn K mainGlobals "is_template"=some (some (.ref f22))) (l22:K.lookup f22=some ⟨oc22,od22, .func (W.fnOf "is_template" "is_template" (an_ aZ_) (am_ aZ_) (ab_ aZ_) .none kV22 dc22 pm22 an22 cd22 ct22),sl22⟩) (c22:W.codeIn K cd22 "is_template"=true) (k22:W.keepIn K (.ref f22)=true)
  {f23:Addr}{od23 an23:Option Addr}{sl23:Array (Option Value)}{oc23 kV23 dc23 pm23 cd23 ct23:Value}
  (a23:W.nsIn K mainGlobals "templates"=some (some (.ref f23))) (l23:K.lookup f23=some ⟨oc23,od23, .func (W.fnOf "templates" "templates" (an_ br_) (am_ br_) (ab_ br_) .none kV23 dc23 pm23 an23 cd23 ct23),sl23⟩) (c23:W.codeIn K cd23 "templates"=true) (k23:W.keepIn K (.ref f23)=true)
  {f24:Addr}{od24 an24:Option Addr}{sl24:Array (Option Value)}{oc24 kV24 dc24 pm24 cd24 ct24:Value}
  (a24:W.nsIn K mainGlobals "load"=some (some (.ref f24))) (l24:K.lookup f24=some ⟨oc24,od24, .func (W.fnOf "load" "load" (an_ et_) (am_ et_) (ab_ et_) .none kV24 dc24 pm24 an24 cd24 ct24),sl24⟩) (c24:W.codeIn K cd24 "load"=true) (k24:W.keepIn K (.ref f24)=true)
  {f25:Addr}{od25 an25:Option Addr}{sl25:Array (Option Value)}{oc25 kV25 dc25 pm25 cd25 ct25:Value}
  (a25:W.nsIn K mainGlobals "least_place"=some (some (.ref f25))) (l25:K.lookup f25=some ⟨oc25,od25, .func (W.fnOf "least_place" "least_place" (an_ aY_) (am_ aY_) (ab_ aY_) .none kV25 dc25 pm25 an25 cd25 ct25),sl25⟩) (c25:W.codeIn K cd25 "least_place"=true) (k25:W.keepIn K (.ref f25)=true)
  {f26:Addr}{od26 an26:Option Addr}{sl26:Array (Option Value)}{oc26 kV26 dc26 pm26 cd26 ct26:Value}
  (a26:W.nsIn K mainGlobals "words_at"=some (some (.ref f26))) (l26:K.lookup f26=some ⟨oc26,od26, .func (W.fnOf "words_at" "words_at" (an_ bJ_) (am_ bJ_) (ab_ bJ_) .none kV26 dc26 pm26 an26 cd26 ct26),sl26⟩) (c26:W.codeIn K cd26 "words_at"=true) (k26:W.keepIn K (.ref f26)=true)
  {f27:Addr}{od27 an27:Option Addr}{sl27:Array (Option Value)}{oc27 kV27 dc27 pm27 cd27 ct27:Value}
  (a27:W.nsIn K mainGlobals "last_place"=some (some (.ref f27))) (l27:K.lookup f27=some ⟨oc27,od27, .func (W.fnOf "last_place" "last_place" (an_ bj_) (am_ bj_) (ab_ bj_) .none kV27 dc27 pm27 an27 cd27 ct27),sl27⟩) (c27:W.codeIn K cd27 "last_place"=true) (k27:W.keepIn K (.ref f27)=true)
  {f28:Addr}{od28 an28:Option Addr}{sl28:Array (Option Value)}{oc28 kV28 dc28 pm28 cd28 ct28:Value}
  (a28:W.nsIn K mainGlobals "standings"=some (some (.ref f28))) (l28:K.lookup f28=some ⟨oc28,od28, .func (W.fnOf "standings" "standings" (an_ bL_) (am_ bL_) (ab_ bL_) .none kV28 dc28 pm28 an28 cd28 ct28),sl28⟩) (c28:W.codeIn K cd28 "standings"=true) (k28:W.keepIn K (.ref f28)=true)
  {f29:Addr}{od29 an29:Option Addr}{sl29:Array (Option Value)}{oc29 kV29 dc29 pm29 cd29 ct29:Value}
  (a29:W.nsIn K mainGlobals "counted"=some (some (.ref f29))) (l29:K.lookup f29=some ⟨oc29,od29, .func (W.fnOf "counted" "counted" (an_ cj_) (am_ cj_) (ab_ cj_) .none kV29 dc29 pm29 an29 cd29 ct29),sl29⟩) (c29:W.codeIn K cd29 "counted"=true) (k29:W.keepIn K (.ref f29)=true)
  {f30:Addr}{od30 an30:Option Addr}{sl30:Array (Option Value)}{oc30 kV30 dc30 pm30 cd30 ct30:Value}
  (a30:W.nsIn K mainGlobals "count_of_rows"=some (some (.ref f30))) (l30:K.lookup f30=some ⟨oc30,od30, .func (W.fnOf "count_of_rows" "count_of_rows" (an_ aT_) (am_ aT_) (ab_ aT_) .none kV30 dc30 pm30 an30 cd30 ct30),sl30⟩) (c30:W.codeIn K cd30 "count_of_rows"=true) (k30:W.keepIn K (.ref f30)=true)
  {f31:Addr}{od31 an31:Option Addr}{sl31:Array (Option Value)}{oc31 kV31 dc31 pm31 cd31 ct31:Value}
  (a31:W.nsIn K mainGlobals "count_by_templates"=some (some (.ref f31))) (l31:K.lookup f31=some ⟨oc31,od31, .func (W.fnOf "count_by_templates" "count_by_templates" (an_ aD_) (am_ aD_) (ab_ aD_) .none kV31 dc31 pm31 an31 cd31 ct31),sl31⟩) (c31:W.codeIn K cd31 "count_by_templates"=true) (k31:W.keepIn K (.ref f31)=true)
  {f32:Addr}{od32 an32:Option Addr}{sl32:Array (Option Value)}{oc32 kV32 dc32 pm32 cd32 ct32:Value}
  (a32:W.nsIn K mainGlobals "surely_from"=some (some (.ref f32))) (l32:K.lookup f32=some ⟨oc32,od32, .func (W.fnOf "surely_from" "surely_from" (an_ bo_) (am_ bo_) (ab_ bo_) .none kV32 dc32 pm32 an32 cd32 ct32),sl32⟩) (c32:W.codeIn K cd32 "surely_from"=true) (k32:W.keepIn K (.ref f32)=true)
  {f33:Addr}{od33 an33:Option Addr}{sl33:Array (Option Value)}{oc33 kV33 dc33 pm33 cd33 ct33:Value}
  (a33:W.nsIn K mainGlobals "polynomial_of"=some (some (.ref f33))) (l33:K.lookup f33=some ⟨oc33,od33, .func (W.fnOf "polynomial_of" "polynomial_of" (an_ aM_) (am_ aM_) (ab_ aM_) .none kV33 dc33 pm33 an33 cd33 ct33),sl33⟩) (c33:W.codeIn K cd33 "polynomial_of"=true) (k33:W.keepIn K (.ref f33)=true)
  {f34:Addr}{od34 an34:Option Addr}{sl34:Array (Option Value)}{oc34 kV34 dc34 pm34 cd34 ct34:Value}
  (a34:W.nsIn K mainGlobals "holds_from"=some (some (.ref f34))) (l34:K.lookup f34=some ⟨oc34,od34, .func (W.fnOf "holds_from" "holds_from" (an_ bw_) (am_ bw_) (ab_ bw_) .none kV34 dc34 pm34 an34 cd34 ct34),sl34⟩) (c34:W.codeIn K cd34 "holds_from"=true) (k34:W.keepIn K (.ref f34)=true)
  {f35:Addr}{od35 an35:Option Addr}{sl35:Array (Option Value)}{oc35 kV35 dc35 pm35 cd35 ct35:Value}
  (a35:W.nsIn K mainGlobals "_law_cell_at"=some (some (.ref f35))) (l35:K.lookup f35=some ⟨oc35,od35, .func (W.fnOf "_law_cell_at" "_law_cell_at" (an_ a8_) (am_ a8_) (ab_ a8_) .none kV35 dc35 pm35 an35 cd35 ct35),sl35⟩) (c35:W.codeIn K cd35 "_law_cell_at"=true) (k35:W.keepIn K (.ref f35)=true)
  {f36:Addr}{od36 an36:Option Addr}{sl36:Array (Option Value)}{oc36 kV36 dc36 pm36 cd36 ct36:Value}
  (a36:W.nsIn K mainGlobals "_law_bag"=some (some (.ref f36))) (l36:K.lookup f36=some ⟨oc36,od36, .func (W.fnOf "_law_bag" "_law_bag" (an_ b3_) (am_ b3_) (ab_ b3_) .none kV36 dc36 pm36 an36 cd36 ct36),sl36⟩) (c36:W.codeIn K cd36 "_law_bag"=true) (k36:W.keepIn K (.ref f36)=true)
  {f37:Addr}{od37 an37:Option Addr}{sl37:Array (Option Value)}{oc37 kV37 dc37 pm37 cd37 ct37:Value}
  (a37:W.nsIn K mainGlobals "_law_mixed"=some (some (.ref f37))) (l37:K.lookup f37=some ⟨oc37,od37, .func (W.fnOf "_law_mixed" "_law_mixed" (an_ bx_) (am_ bx_) (ab_ bx_) .none kV37 dc37 pm37 an37 cd37 ct37),sl37⟩) (c37:W.codeIn K cd37 "_law_mixed"=true) (k37:W.keepIn K (.ref f37)=true)
  {f38:Addr}{od38 an38:Option Addr}{sl38:Array (Option Value)}{oc38 kV38 dc38 pm38 cd38 ct38:Value}
  (a38:W.nsIn K mainGlobals "_law_digit"=some (some (.ref f38))) (l38:K.lookup f38=some ⟨oc38,od38, .func (W.fnOf "_law_digit" "_law_digit" (an_ bz_) (am_ bz_) (ab_ bz_) .none kV38 dc38 pm38 an38 cd38 ct38),sl38⟩) (c38:W.codeIn K cd38 "_law_digit"=true) (k38:W.keepIn K (.ref f38)=true)
  {f39:Addr}{od39 an39:Option Addr}{sl39:Array (Option Value)}{oc39 kV39 dc39 pm39 cd39 ct39:Value}
  (a39:W.nsIn K mainGlobals "_law_refused"=some (some (.ref f39))) (l39:K.lookup f39=some ⟨oc39,od39, .func (W.fnOf "_law_refused" "_law_refused" (an_ a7_) (am_ a7_) (ab_ a7_) .none kV39 dc39 pm39 an39 cd39 ct39),sl39⟩) (c39:W.codeIn K cd39 "_law_refused"=true) (k39:W.keepIn K (.ref f39)=true)
  {f40:Addr}{od40 an40:Option Addr}{sl40:Array (Option Value)}{oc40 kV40 dc40 pm40 cd40 ct40:Value}
  (a40:W.nsIn K mainGlobals "_law_known"=some (some (.ref f40))) (l40:K.lookup f40=some ⟨oc40,od40, .func (W.fnOf "_law_known" "_law_known" (an_ by_) (am_ by_) (ab_ by_) .none kV40 dc40 pm40 an40 cd40 ct40),sl40⟩) (c40:W.codeIn K cd40 "_law_known"=true) (k40:W.keepIn K (.ref f40)=true)
  {f41:Addr}{od41 an41:Option Addr}{sl41:Array (Option Value)}{oc41 kV41 dc41 pm41 cd41 ct41:Value}
  (a41:W.nsIn K mainGlobals "law"=some (some (.ref f41))) (l41:K.lookup f41=some ⟨oc41,od41, .func (W.fnOf "law" "law" (an_ fT_) (am_ fT_) (ab_ fT_) .none kV41 dc41 pm41 an41 cd41 ct41),sl41⟩) (c41:W.codeIn K cd41 "law"=true) (k41:W.keepIn K (.ref f41)=true)
  (z0:W.nsIn K mainGlobals "isinstance"=some none)
  (z1:W.nsIn K mainGlobals "int"=some none)
  (z2:W.nsIn K mainGlobals "bool"=some none)
  (z3:W.nsIn K mainGlobals "list"=some none)
  (z4:W.nsIn K mainGlobals "max"=some none)
  (z5:W.nsIn K mainGlobals "enumerate"=some none)
  (z6:W.nsIn K mainGlobals "len"=some none)
  (z7:W.nsIn K mainGlobals "abs"=some none)
  (z8:W.nsIn K mainGlobals "reversed"=some none)
  (z9:W.nsIn K mainGlobals "zip"=some none)
  (z10:W.nsIn K mainGlobals "range"=some none)
  (z11:W.nsIn K mainGlobals "sorted"=some none)
  (z12:W.nsIn K mainGlobals "sum"=some none)
  (z13:W.nsIn K mainGlobals "tuple"=some none)
  (z14:W.nsIn K mainGlobals "set"=some none)
  (z15:W.nsIn K mainGlobals "any"=some none)
  (z16:W.nsIn K mainGlobals "all"=some none)
  (z17:W.nsIn K mainGlobals "ValueError"=some none)
  {C_NoBound:Addr} (ca_NoBound:W.nsIn K mainGlobals "NoBound"=some (some (.ref C_NoBound)))
  {C_NoNumber:Addr} (ca_NoNumber:W.nsIn K mainGlobals "NoNumber"=some (some (.ref C_NoNumber)))
  {C_CurveError:Addr} (ca_CurveError:W.nsIn K mainGlobals "CurveError"=some (some (.ref C_CurveError)))
  {C_NoDrawing:Addr} (ca_NoDrawing:W.nsIn K mainGlobals "NoDrawing"=some (some (.ref C_NoDrawing)))
  {C_NoEnds:Addr} (ca_NoEnds:W.nsIn K mainGlobals "NoEnds"=some (some (.ref C_NoEnds)))
  {C_NoText:Addr} (ca_NoText:W.nsIn K mainGlobals "NoText"=some (some (.ref C_NoText)))
  (cx_NoBound:W.excIn K C_NoBound bmV "ValueError.__new__"=true)
  (xc_NoBound_cl:(W.clsIn K C_NoBound).isSome=true)
  (xc_NoBound_ga:W.findIn K (.ref C_NoBound) "__getattribute__"=some (some (.builtin "BaseException.__getattribute__")))
  (xc_NoBound_gt:W.findIn K (.ref C_NoBound) "__getattr__"=some none)
  (xc_NoBound_ca:W.findIn K (.ref C_NoBound) "__class__"=some (some (.builtin "object.__class__")))
  (xc_NoBound_gn:W.specialIn K (.builtin "object.__class__") "__get__"=some (some (.builtin "getset_descriptor.__get__")))
  (xc_NoBound_tk:W.takesIn K (.builtin "object.__class__")=some true)
  (xc_NoBound_ob:W.mroIn K C_NoBound (.type "object")=some true)
  (xc_NoBound_be:W.mroIn K C_NoBound (.type "BaseException")=some true)
  (cx_NoNumber:W.excIn K C_NoNumber bmV "ValueError.__new__"=true)
  (xc_NoNumber_cl:(W.clsIn K C_NoNumber).isSome=true)
  (xc_NoNumber_ga:W.findIn K (.ref C_NoNumber) "__getattribute__"=some (some (.builtin "BaseException.__getattribute__")))
  (xc_NoNumber_gt:W.findIn K (.ref C_NoNumber) "__getattr__"=some none)
  (xc_NoNumber_ca:W.findIn K (.ref C_NoNumber) "__class__"=some (some (.builtin "object.__class__")))
  (xc_NoNumber_gn:W.specialIn K (.builtin "object.__class__") "__get__"=some (some (.builtin "getset_descriptor.__get__")))
  (xc_NoNumber_tk:W.takesIn K (.builtin "object.__class__")=some true)
  (xc_NoNumber_ob:W.mroIn K C_NoNumber (.type "object")=some true)
  (xc_NoNumber_be:W.mroIn K C_NoNumber (.type "BaseException")=some true)
  (ce_NoBound_CurveError:W.exmOne K (.ref C_NoBound) (.ref C_CurveError)=some true)
  (ce_NoNumber_CurveError:W.exmOne K (.ref C_NoNumber) (.ref C_CurveError)=some true)
  (ck_NoBound_NoBound:W.kitOne K (.ref C_NoBound) (.ref C_NoBound)=some true)
  (ck_NoBound_ValueError:W.kitOne K (.ref C_NoBound) (.type "ValueError")=some true)
  (ck_NoNumber_NoBound:W.kitOne K (.ref C_NoNumber) (.ref C_NoBound)=some false)
  (ck_NoNumber_ValueError:W.kitOne K (.ref C_NoNumber) (.type "ValueError")=some true)
  (cs_NoBound_0:W.kitAny K (.ref C_NoBound) [(.ref C_NoDrawing),(.ref C_NoEnds),(.ref C_NoNumber),(.ref C_NoText)]=some false)
  (cs_NoNumber_1:W.kitAny K (.ref C_NoNumber) [(.ref C_NoDrawing),(.ref C_NoEnds),(.ref C_NoNumber),(.ref C_NoText)]=some true)
  :∃fd:FuncData,(∀(s:Shared) (v:Value),BindsTo s fd ⟨[v],[]⟩ [("_law_script",v)])/\∀base:Heap,K.In base->base.Ns mainGlobals mg->FnOk l.prog w K mg base CX0 16 fa fd ["_law_script"] (iC_ K):=by
 have e:=hfa.symm.trans (AG X G a41);cases e;have F0:=ay_ (st:=b2_) l0 c0 k0;have B0:=F0.binds (ps:=["thing"]) fun _ _ _ _ _ _ us hl=>us1 (Q:=fun us=>bindArgs _ ⟨us,[]⟩=pure (List.zip _ us)) (fun _=>rfl) us hl;have F1:=ay_ (st:=a6_) l1 c1 k1;have B1:=F1.binds (ps:=["thing","least","greatest"]) fun _ _ _ _ _ _ us hl=>us3 (Q:=fun us=>bindArgs _ ⟨us,[]⟩=pure (List.zip _ us)) (fun _ _ _=>rfl) us hl;have F2:=ay_ (st:=aw_) l2 c2 k2;have B2:=F2.binds (ps:=["numbers"]) fun _ _ _ _ _ _ us hl=>us1 (Q:=fun us=>bindArgs _ ⟨us,[]⟩=pure (List.zip _ us)) (fun _=>rfl) us hl;have F3:=ay_ (st:=a5_) l3 c3 k3;have B3:=F3.binds (ps:=["one","other"]) fun _ _ _ _ _ _ us hl=>us2 (Q:=fun us=>bindArgs _ ⟨us,[]⟩=pure (List.zip _ us)) (fun _ _=>rfl) us hl;have F4:=ay_ (st:=aI_) l4 c4 k4;have B4:=F4.binds (ps:=["one","other"]) fun _ _ _ _ _ _ us hl=>us2 (Q:=fun us=>bindArgs _ ⟨us,[]⟩=pure (List.zip _ us)) (fun _ _=>rfl) us hl;have F5:=ay_ (st:=bK_) l5 c5 k5;have B5:=F5.binds (ps:=["numbers","place","more"]) fun _ _ _ _ _ _ us hl=>us3 (Q:=fun us=>bindArgs _ ⟨us,[]⟩=pure (List.zip _ us)) (fun _ _ _=>rfl) us hl;have F6:=ay_ (st:=aR_) l6 c6 k6;have B6:=F6.binds (ps:=["one","other"]) fun _ _ _ _ _ _ us hl=>us2 (Q:=fun us=>bindArgs _ ⟨us,[]⟩=pure (List.zip _ us)) (fun _ _=>rfl) us hl;have F7:=ay_ (st:=b1_) l7 c7 k7;have B7:=F7.binds (ps:=["tops","bottom"]) fun _ _ _ _ _ _ us hl=>us2 (Q:=fun us=>bindArgs _ ⟨us,[]⟩=pure (List.zip _ us)) (fun _ _=>rfl) us hl;have F8:=ay_ (st:=es_) l8 c8 k8;have B8:=F8.binds (ps:=["tops","bottom"]) fun _ _ _ _ _ _ us hl=>us2 (Q:=fun us=>bindArgs _ ⟨us,[]⟩=pure (List.zip _ us)) (fun _ _=>rfl) us hl;have F9:=ay_ (st:=dS_) l9 c9 k9;have B9:=F9.binds (ps:=["one","other"]) fun _ _ _ _ _ _ us hl=>us2 (Q:=fun us=>bindArgs _ ⟨us,[]⟩=pure (List.zip _ us)) (fun _ _=>rfl) us hl;have F10:=ay_ (st:=dF_) l10 c10 k10;have B10:=F10.binds (ps:=["one","other"]) fun _ _ _ _ _ _ us hl=>us2 (Q:=fun us=>bindArgs _ ⟨us,[]⟩=pure (List.zip _ us)) (fun _ _=>rfl) us hl;have F11:=ay_ (st:=dE_) l11 c11 k11;have B11:=F11.binds (ps:=["one","at"]) fun _ _ _ _ _ _ us hl=>us2 (Q:=fun us=>bindArgs _ ⟨us,[]⟩=pure (List.zip _ us)) (fun _ _=>rfl) us hl;have F12:=ay_ (st:=b4_) l12 c12 k12;have B12:=F12.binds (ps:=["start","values"]) fun _ _ _ _ _ _ us hl=>us2 (Q:=fun us=>bindArgs _ ⟨us,[]⟩=pure (List.zip _ us)) (fun _ _=>rfl) us hl;have F13:=ay_ (st:=fq_) l13 c13 k13;have B13:=F13.binds (ps:=["lift"]) fun _ _ _ _ _ _ us hl=>us1 (Q:=fun us=>bindArgs _ ⟨us,[]⟩=pure (List.zip _ us)) (fun _=>rfl) us hl;have F14:=ay_ (st:=dD_) l14 c14 k14;have B14:=F14.binds (ps:=["drawing"]) fun _ _ _ _ _ _ us hl=>us1 (Q:=fun us=>bindArgs _ ⟨us,[]⟩=pure (List.zip _ us)) (fun _=>rfl) us hl;have F15:=ay_ (st:=cO_) l15 c15 k15;have B15:=F15.binds (ps:=["number","chosen"]) fun _ _ _ _ _ _ us hl=>us2 (Q:=fun us=>bindArgs _ ⟨us,[]⟩=pure (List.zip _ us)) (fun _ _=>rfl) us hl;have F16:=ay_ (st:=bp_) l16 c16 k16;have B16:=F16.binds (ps:=["numbers","first","last","alike"]) fun _ _ _ _ _ _ us hl=>us4 (Q:=fun us=>bindArgs _ ⟨us,[]⟩=pure (List.zip _ us)) (fun _ _ _ _=>rfl) us hl;have F17:=ay_ (st:=aK_) l17 c17 k17;have B17:=F17.binds (ps:=["d","marks"]) fun _ _ _ _ _ _ us hl=>us2 (Q:=fun us=>bindArgs _ ⟨us,[]⟩=pure (List.zip _ us)) (fun _ _=>rfl) us hl;have F18:=ay_ (st:=cs_) l18 c18 k18;have B18:=F18.binds (ps:=["template"]) fun _ _ _ _ _ _ us hl=>us1 (Q:=fun us=>bindArgs _ ⟨us,[]⟩=pure (List.zip _ us)) (fun _=>rfl) us hl;have F19:=ay_ (st:=bi_) l19 c19 k19;have B19:=F19.binds (ps:=["k"]) fun _ _ _ _ _ _ us hl=>us1 (Q:=fun us=>bindArgs _ ⟨us,[]⟩=pure (List.zip _ us)) (fun _=>rfl) us hl;have F20:=ay_ (st:=cN_) l20 c20 k20;have B20:=F20.binds (ps:=["lifts","k"]) fun _ _ _ _ _ _ us hl=>us2 (Q:=fun us=>bindArgs _ ⟨us,[]⟩=pure (List.zip _ us)) (fun _ _=>rfl) us hl;have F21:=ay_ (st:=aX_) l21 c21 k21;have B21:=F21.binds (ps:=["number","lifts"]) fun _ _ _ _ _ _ us hl=>us2 (Q:=fun us=>bindArgs _ ⟨us,[]⟩=pure (List.zip _ us)) (fun _ _=>rfl) us hl;have F22:=ay_ (st:=aZ_) l22 c22 k22;have B22:=F22.binds (ps:=["lifts"]) fun _ _ _ _ _ _ us hl=>us1 (Q:=fun us=>bindArgs _ ⟨us,[]⟩=pure (List.zip _ us)) (fun _=>rfl) us hl;have F23:=ay_ (st:=br_) l23 c23 k23;have B23:=F23.binds (ps:=["k"]) fun _ _ _ _ _ _ us hl=>us1 (Q:=fun us=>bindArgs _ ⟨us,[]⟩=pure (List.zip _ us)) (fun _=>rfl) us hl;have F24:=ay_ (st:=et_) l24 c24 k24;have B24:=F24.binds (ps:=["template","j"]) fun _ _ _ _ _ _ us hl=>us2 (Q:=fun us=>bindArgs _ ⟨us,[]⟩=pure (List.zip _ us)) (fun _ _=>rfl) us hl;have F25:=ay_ (st:=aY_) l25 c25 k25;have B25:=F25.binds (ps:=["template"]) fun _ _ _ _ _ _ us hl=>us1 (Q:=fun us=>bindArgs _ ⟨us,[]⟩=pure (List.zip _ us)) (fun _=>rfl) us hl;have F26:=ay_ (st:=bJ_) l26 c26 k26;have B26:=F26.binds (ps:=["template","place"]) fun _ _ _ _ _ _ us hl=>us2 (Q:=fun us=>bindArgs _ ⟨us,[]⟩=pure (List.zip _ us)) (fun _ _=>rfl) us hl;have F27:=ay_ (st:=bj_) l27 c27 k27;have B27:=F27.binds (ps:=["d","template"]) fun _ _ _ _ _ _ us hl=>us2 (Q:=fun us=>bindArgs _ ⟨us,[]⟩=pure (List.zip _ us)) (fun _ _=>rfl) us hl;have F28:=ay_ (st:=bL_) l28 c28 k28;have B28:=F28.binds (ps:=["d","k"]) fun _ _ _ _ _ _ us hl=>us2 (Q:=fun us=>bindArgs _ ⟨us,[]⟩=pure (List.zip _ us)) (fun _ _=>rfl) us hl;have F29:=ay_ (st:=cj_) l29 c29 k29;have B29:=F29.binds (ps:=["k","first","standing","known"]) fun _ _ _ _ _ _ us hl=>us4 (Q:=fun us=>bindArgs _ ⟨us,[]⟩=pure (List.zip _ us)) (fun _ _ _ _=>rfl) us hl;have F30:=ay_ (st:=aT_) l30 c30 k30;have B30:=F30.binds (ps:=["d","k"]) fun _ _ _ _ _ _ us hl=>us2 (Q:=fun us=>bindArgs _ ⟨us,[]⟩=pure (List.zip _ us)) (fun _ _=>rfl) us hl;have F31:=ay_ (st:=aD_) l31 c31 k31;have B31:=F31.binds (ps:=["d","k"]) fun _ _ _ _ _ _ us hl=>us2 (Q:=fun us=>bindArgs _ ⟨us,[]⟩=pure (List.zip _ us)) (fun _ _=>rfl) us hl;have F32:=ay_ (st:=bo_) l32 c32 k32;have B32:=F32.binds (ps:=["k"]) fun _ _ _ _ _ _ us hl=>us1 (Q:=fun us=>bindArgs _ ⟨us,[]⟩=pure (List.zip _ us)) (fun _=>rfl) us hl;have F33:=ay_ (st:=aM_) l33 c33 k33;have B33:=F33.binds (ps:=["k"]) fun _ _ _ _ _ _ us hl=>us1 (Q:=fun us=>bindArgs _ ⟨us,[]⟩=pure (List.zip _ us)) (fun _=>rfl) us hl;have F34:=ay_ (st:=bw_) l34 c34 k34;have B34:=F34.binds (ps:=["k"]) fun _ _ _ _ _ _ us hl=>us1 (Q:=fun us=>bindArgs _ ⟨us,[]⟩=pure (List.zip _ us)) (fun _=>rfl) us hl;have F35:=ay_ (st:=a8_) l35 c35 k35;have B35:=F35.binds (ps:=["_law_script","_law_k"]) fun _ _ _ _ _ _ us hl=>us2 (Q:=fun us=>bindArgs _ ⟨us,[]⟩=pure (List.zip _ us)) (fun _ _=>rfl) us hl;have F36:=ay_ (st:=b3_) l36 c36 k36;have B36:=F36.binds (ps:=["_law_cell","_law_place"]) fun _ _ _ _ _ _ us hl=>us2 (Q:=fun us=>bindArgs _ ⟨us,[]⟩=pure (List.zip _ us)) (fun _ _=>rfl) us hl;have F37:=ay_ (st:=bx_) l37 c37 k37;have B37:=F37.binds (ps:=["_law_bag_here"]) fun _ _ _ _ _ _ us hl=>us1 (Q:=fun us=>bindArgs _ ⟨us,[]⟩=pure (List.zip _ us)) (fun _=>rfl) us hl;have F38:=ay_ (st:=bz_) l38 c38 k38;have B38:=F38.binds (ps:=["_law_bag_here","_law_many"]) fun _ _ _ _ _ _ us hl=>us2 (Q:=fun us=>bindArgs _ ⟨us,[]⟩=pure (List.zip _ us)) (fun _ _=>rfl) us hl;have F39:=ay_ (st:=a7_) l39 c39 k39;have B39:=F39.binds (ps:=["_law_what","_law_k"]) fun _ _ _ _ _ _ us hl=>us2 (Q:=fun us=>bindArgs _ ⟨us,[]⟩=pure (List.zip _ us)) (fun _ _=>rfl) us hl;have F40:=ay_ (st:=by_) l40 c40 k40;have B40:=F40.binds (ps:=["_law_k","_law_d","_law_told"]) fun _ _ _ _ _ _ us hl=>us3 (Q:=fun us=>bindArgs _ ⟨us,[]⟩=pure (List.zip _ us)) (fun _ _ _=>rfl) us hl;have F41:=ay_ (st:=fT_) l41 c41 k41;have B41:=F41.binds (ps:=["_law_script"]) fun _ _ _ _ _ _ us hl=>us1 (Q:=fun us=>bindArgs _ ⟨us,[]⟩=pure (List.zip _ us)) (fun _=>rfl) us hl;let T:Fns K mg:={f_is_whole:=f0,d_is_whole:=_,F_is_whole:=F0,B_is_whole:=B0,m_is_whole:=AG X G a0,f_need_between:=f1,d_need_between:=_,F_need_between:=F1,B_need_between:=B1,m_need_between:=AG X G a1,f_without_last_noughts:=f2,d_without_last_noughts:=_,F_without_last_noughts:=F2,B_without_last_noughts:=B2,m_without_last_noughts:=AG X G a2,f_sum_by_place:=f3,d_sum_by_place:=_,F_sum_by_place:=F3,B_sum_by_place:=B3,m_sum_by_place:=AG X G a3,f_product_by_place:=f4,d_product_by_place:=_,F_product_by_place:=F4,B_product_by_place:=B4,m_product_by_place:=AG X G a4,f_with_more:=f5,d_with_more:=_,F_with_more:=F5,B_with_more:=B5,m_with_more:=AG X G a5,f_common_divisor:=f6,d_common_divisor:=_,F_common_divisor:=F6,B_common_divisor:=B6,m_common_divisor:=AG X G a6,f_lowering:=f7,d_lowering:=_,F_lowering:=F7,B_lowering:=B7,m_lowering:=AG X G a7,f_poly:=f8,d_poly:=_,F_poly:=F8,B_poly:=B8,m_poly:=AG X G a8,f_plus:=f9,d_plus:=_,F_plus:=F9,B_plus:=B9,m_plus:=AG X G a9,f_times:=f10,d_times:=_,F_times:=F10,B_times:=B10,m_times:=AG X G a10,f_value:=f11,d_value:=_,F_value:=F11,B_value:=B11,m_value:=AG X G a11,f_through:=f12,d_through:=_,F_through:=F12,B_through:=B12,m_through:=AG X G a12,f_lost:=f13,d_lost:=_,F_lost:=F13,B_lost:=B13,m_lost:=AG X G a13,f_worth:=f14,d_worth:=_,F_worth:=F14,B_worth:=B14,m_worth:=AG X G a14,f_choose:=f15,d_choose:=_,F_choose:=F15,B_choose:=B15,m_choose:=AG X G a15,f_put_between:=f16,d_put_between:=_,F_put_between:=F16,B_put_between:=B16,m_put_between:=AG X G a16,f_how_many_orders:=f17,d_how_many_orders:=_,F_how_many_orders:=F17,B_how_many_orders:=B17,m_how_many_orders:=AG X G a17,f_length:=f18,d_length:=_,F_length:=F18,B_length:=B18,m_length:=AG X G a18,f_long_lifts:=f19,d_long_lifts:=_,F_long_lifts:=F19,B_long_lifts:=B19,m_long_lifts:=AG X G a19,f_losing:=f20,d_losing:=_,F_losing:=F20,B_losing:=B20,m_losing:=AG X G a20,f_lies_within:=f21,d_lies_within:=_,F_lies_within:=F21,B_lies_within:=B21,m_lies_within:=AG X G a21,f_is_template:=f22,d_is_template:=_,F_is_template:=F22,B_is_template:=B22,m_is_template:=AG X G a22,f_templates:=f23,d_templates:=_,F_templates:=F23,B_templates:=B23,m_templates:=AG X G a23,f_load:=f24,d_load:=_,F_load:=F24,B_load:=B24,m_load:=AG X G a24,f_least_place:=f25,d_least_place:=_,F_least_place:=F25,B_least_place:=B25,m_least_place:=AG X G a25,f_words_at:=f26,d_words_at:=_,F_words_at:=F26,B_words_at:=B26,m_words_at:=AG X G a26,f_last_place:=f27,d_last_place:=_,F_last_place:=F27,B_last_place:=B27,m_last_place:=AG X G a27,f_standings:=f28,d_standings:=_,F_standings:=F28,B_standings:=B28,m_standings:=AG X G a28,f_counted:=f29,d_counted:=_,F_counted:=F29,B_counted:=B29,m_counted:=AG X G a29,f_count_of_rows:=f30,d_count_of_rows:=_,F_count_of_rows:=F30,B_count_of_rows:=B30,m_count_of_rows:=AG X G a30,f_count_by_templates:=f31,d_count_by_templates:=_,F_count_by_templates:=F31,B_count_by_templates:=B31,m_count_by_templates:=AG X G a31,f_surely_from:=f32,d_surely_from:=_,F_surely_from:=F32,B_surely_from:=B32,m_surely_from:=AG X G a32,f_polynomial_of:=f33,d_polynomial_of:=_,F_polynomial_of:=F33,B_polynomial_of:=B33,m_polynomial_of:=AG X G a33,f_holds_from:=f34,d_holds_from:=_,F_holds_from:=F34,B_holds_from:=B34,m_holds_from:=AG X G a34,f__law_cell_at:=f35,d__law_cell_at:=_,F__law_cell_at:=F35,B__law_cell_at:=B35,m__law_cell_at:=AG X G a35,f__law_bag:=f36,d__law_bag:=_,F__law_bag:=F36,B__law_bag:=B36,m__law_bag:=AG X G a36,f__law_mixed:=f37,d__law_mixed:=_,F__law_mixed:=F37,B__law_mixed:=B37,m__law_mixed:=AG X G a37,f__law_digit:=f38,d__law_digit:=_,F__law_digit:=F38,B__law_digit:=B38,m__law_digit:=AG X G a38,f__law_refused:=f39,d__law_refused:=_,F__law_refused:=F39,B__law_refused:=B39,m__law_refused:=AG X G a39,f__law_known:=f40,d__law_known:=_,F__law_known:=F40,B__law_known:=B40,m__law_known:=AG X G a40,f_law:=fa,d_law:=_,F_law:=F41,B_law:=B41,m_law:=AG X G a41,n_isinstance:=Ad X G z0,n_int:=Ad X G z1,n_bool:=Ad X G z2,n_list:=Ad X G z3,n_max:=Ad X G z4,n_enumerate:=Ad X G z5,n_len:=Ad X G z6,n_abs:=Ad X G z7,n_reversed:=Ad X G z8,n_zip:=Ad X G z9,n_range:=Ad X G z10,n_sorted:=Ad X G z11,n_sum:=Ad X G z12,n_tuple:=Ad X G z13,n_set:=Ad X G z14,n_any:=Ad X G z15,n_all:=Ad X G z16,n_ValueError:=Ad X G z17,c_NoBound:=C_NoBound,m_NoBound:=AG X G ca_NoBound,c_NoNumber:=C_NoNumber,m_NoNumber:=AG X G ca_NoNumber,c_CurveError:=C_CurveError,m_CurveError:=AG X G ca_CurveError,c_NoDrawing:=C_NoDrawing,m_NoDrawing:=AG X G ca_NoDrawing,c_NoEnds:=C_NoEnds,m_NoEnds:=AG X G ca_NoEnds,c_NoText:=C_NoText,m_NoText:=AG X G ca_NoText,x_NoBound:=cx_NoBound,X_NoBound:=⟨xc_NoBound_cl,xc_NoBound_ga,xc_NoBound_gt,xc_NoBound_ca,xc_NoBound_gn,xc_NoBound_tk,xc_NoBound_ob,xc_NoBound_be⟩,x_NoNumber:=cx_NoNumber,X_NoNumber:=⟨xc_NoNumber_cl,xc_NoNumber_ga,xc_NoNumber_gt,xc_NoNumber_ca,xc_NoNumber_gn,xc_NoNumber_tk,xc_NoNumber_ob,xc_NoNumber_be⟩,e_NoBound_CurveError:=ce_NoBound_CurveError,e_NoNumber_CurveError:=ce_NoNumber_CurveError,k_NoBound_NoBound:=ck_NoBound_NoBound,k_NoBound_ValueError:=ck_NoBound_ValueError,k_NoNumber_NoBound:=ck_NoNumber_NoBound,k_NoNumber_ValueError:=ck_NoNumber_ValueError,ks_NoBound_0:=cs_NoBound_0,ks_NoNumber_1:=cs_NoNumber_1}
 exact⟨W.fnOf "law" "law" (an_ fT_) (am_ fT_) (ab_ fT_) .none kV41 dc41 pm41 an41 cd41 ct41,fun s v=> .of_eq rfl,fun base _ _=>qn_ T⟩
theorem walk {l:W.OpenLaw}{q:Program}{loose:List Str}{XP:(Str->Option Value)->Heap->Prop}{YP:World->Heap->Prop}{d:DefRec}{K:Params->W.Frag} (hn:l.most=some 63) (hdf:d.params.defaults=[])
  (hY:∀(w:World) (h:Heap),YP w h->(K w.params).In h)
  (F:∀(w:World) (mg:Str->Option Value) (fa:Addr) (h:Heap),(K w.params).In h->h.Ns mainGlobals mg->mg d.name=some (.ref fa)->
   ∃fd:FuncData,(∀(s:Shared) (u:Value),BindsTo s fd ⟨[u],[]⟩ [("_law_script",u)])/\∀base:Heap,(K w.params).In base->base.Ns mainGlobals mg->FnOk l.prog w (K w.params) mg base CX0 16 fa fd ["_law_script"] (iC_ (K w.params))):
  W.WalkO q loose XP YP l.row.toRowW d [] (fun f vs=>PySem.call f vs):=
 L2.n3_ (n:=63) (k:=16) (x:="_law_script") (CX:=fun _=>CX0) (sp:=fun w=>iC_ (K w.params)) hn (by decide) hdf ⟨rfl,by decide,by decide⟩ hY F (fun _ _ a ns hl _ hS=>⟨a,ns,rfl,hS,hl,fun _=>rfl⟩) fun _ _ _ _ _ z=>z
end Mine
open PySem PySem.W PyProof.Rows
namespace PySem.W.Fast
theorem tw7820639738805768163 : True := trivial
theorem tw10678619399314731459 : True := trivial
theorem tw12714366133908919588 : True := trivial
theorem tw8721651476734381551 : True := trivial
theorem tw9997069140214331207 : True := trivial
theorem tw10563241855333539492 : True := trivial
theorem tw3375780052357192675 : True := trivial
theorem tw8734147074497255480 : True := trivial
theorem tw9124427829877510956 : True := trivial
theorem tw14011354143853801648 : True := trivial
theorem tw443791834524367965 : True := trivial
theorem tw15250511670461723708 : True := trivial
theorem tw3104458662180280069 : True := trivial
theorem tw9941672074705905424 : True := trivial
theorem tw7049647100532014714 : True := trivial
theorem tw950747247756401783 : True := trivial
theorem tw12203751303070203337 : True := trivial
theorem tw40094919088334352 : True := trivial
theorem tw1344154157179398535 : True := trivial
theorem tw17928926232361486928 : True := trivial
theorem tw16893832991974786614 : True := trivial
theorem tw746245322604665574 : True := trivial
theorem tw5999083821806215332 : True := trivial
theorem tw17450592150858684510 : True := trivial
theorem tw7428227896212513188 : True := trivial
theorem tw11809100514299618051 : True := trivial
theorem tw7473529932743503550 : True := trivial
theorem tw10987381718410387957 : True := trivial
theorem tw1639819614943850818 : True := trivial
theorem tw2956009985789290596 : True := trivial
theorem tw7329630290217372963 : True := trivial
theorem tw16104931789174145022 : True := trivial
theorem tw16942498915110827087 : True := trivial
theorem tw1816973235734744314 : True := trivial
theorem tw9082662886012588177 : True := trivial
theorem tw7355554977108790313 : True := trivial
theorem tw3839567116909851049 : True := trivial
theorem tw10534493962964986686 : True := trivial
theorem tw9550508949681439292 : True := trivial
theorem tw16823277908302739634 : True := trivial
theorem tw7994178549302960386 : True := trivial
theorem tw5969875072813349920 : True := trivial
theorem tw8235663807248663930 : True := trivial
theorem tw3068646340786361889 : True := trivial
theorem tw8857125393651869193 : True := trivial
theorem tw7304341389334628973 : True := trivial
theorem tw702148364397119929 : True := trivial
theorem tw13864484065873304739 : True := trivial
theorem tw1357109682787396563 : True := trivial
theorem tw9364252614886328902 : True := trivial
theorem tw12543448046743762110 : True := trivial
theorem tw5799613279403190604 : True := trivial
theorem tw11408501101998941364 : True := trivial
theorem tw6542274696593680587 : True := trivial
theorem tw1206851284860076033 : True := trivial
theorem tw11146831479687171233 : True := trivial
theorem tw16905164021856324292 : True := trivial
theorem tw1786427897147590569 : True := trivial
theorem tw14770372060187777916 : True := trivial
theorem tw9479669610911976718 : True := trivial
theorem tw7750714871366612469 : True := trivial
theorem tw3599711077023078938 : True := trivial
theorem tw5957385132747733244 : True := trivial
theorem tw13199426287461370357 : True := trivial
theorem tw18317090539568195927 : True := trivial
theorem tw6347111835384380628 : True := trivial
theorem tw7280304872421041716 : True := trivial
theorem tw18075417207423988404 : True := trivial
theorem tw10598452701098666112 : True := trivial
theorem tw12079510853418541009 : True := trivial
theorem tw9790155024193442464 : True := trivial
theorem tw14942134547545652213 : True := trivial
theorem tw6477029614510712947 : True := trivial
theorem tw10584599303184504228 : True := trivial
theorem tw10862292158901626235 : True := trivial
theorem tw13323447435633743 : True := trivial
theorem tw15087419385478149061 : True := trivial
theorem tw14988521262866677373 : True := trivial
theorem tw5183088341145680053 : True := trivial
theorem tw6980315597703074882 : True := trivial
theorem tw9157604465661217509 : True := trivial
theorem tw4239837317832789532 : True := trivial
theorem tw1807368906013410412 : True := trivial
theorem tw11660630441919251261 : True := trivial
theorem tw14598491206883797332 : True := trivial
theorem tw12352030868043173942 : True := trivial
theorem tw4068961049629529756 : True := trivial
theorem tw5322537415693326386 : True := trivial
theorem tw2635378607086944512 : True := trivial
theorem tw9476643864292327757 : True := trivial
theorem tw15249632867802653102 : True := trivial
theorem tw8240919460851072199 : True := trivial
theorem tw14656523932636713692 : True := trivial
theorem tw8846532977328646258 : True := trivial
theorem tw12973401864356339517 : True := trivial
theorem tw14155146578421612417 : True := trivial
theorem tw14821522394651536892 : True := trivial
theorem tw16729788297567353054 : True := trivial
theorem tw7145096115317296145 : True := trivial
theorem tw320386856647105302 : True := trivial
theorem tw13662206800571630914 : True := trivial
theorem tw6154975230299623957 : True := trivial
theorem tw10597302275689254300 : True := trivial
theorem tw16658753646892438376 : True := trivial
theorem tw5156399327898324125 : True := trivial
theorem tw1583796835014949424 : True := trivial
theorem tw898433075735764887 : True := trivial
theorem tw471523638552426480 : True := trivial
theorem tw12878270020269739571 : True := trivial
theorem tw14446581781809485329 : True := trivial
theorem tw4175185816809242152 : True := trivial
theorem tw3437305213922585913 : True := trivial
theorem tw4879694702115703657 : True := trivial
theorem tw2525680783059416059 : True := trivial
theorem tw15778577163385731380 : True := trivial
theorem tw13992489757506310229 : True := trivial
theorem tw2103261229386266218 : True := trivial
theorem tw12107730882474284378 : True := trivial
theorem tw2319542061092334479 : True := trivial
theorem tw15301383490690891277 : True := trivial
theorem tw6200531744354133423 : True := trivial
theorem tw8319542142164076195 : True := trivial
theorem tw4827356571820530069 : True := trivial
theorem tw11538462216555085565 : True := trivial
theorem tw2690764708870040894 : True := trivial
theorem tw5316072826641560813 : True := trivial
theorem tw6686667815156368589 : True := trivial
theorem tw11559231684467883799 : True := trivial
theorem tw11308534646970894328 : True := trivial
theorem tw10932323331708057652 : True := trivial
theorem tw16999855330428208388 : True := trivial
theorem tw5784711314889414179 : True := trivial
theorem tw17608836915624799535 : True := trivial
theorem tw11379550086872386968 : True := trivial
theorem tw1723155654151166722 : True := trivial
theorem tw3839962718369180650 : True := trivial
theorem tw18043576714952990987 : True := trivial
theorem tw16323169322081316030 : True := trivial
theorem tw9875565663150853757 : True := trivial
theorem tw7900350173922915531 : True := trivial
theorem tw5474981914544402630 : True := trivial
theorem tw18153942261238954992 : True := trivial
theorem tw10888080152985818040 : True := trivial
theorem tw15658571289339739817 : True := trivial
theorem tw6083168351987012970 : True := trivial
theorem tw2644975377532140512 : True := trivial
theorem tw8168652614122742852 : True := trivial
theorem tw9915114148009436023 : True := trivial
theorem tw8542603822475134309 : True := trivial
theorem tw1602482761716804809 : True := trivial
theorem tw7549193143446682967 : True := trivial
theorem tw2061268181836442420 : True := trivial
theorem tw12583345036898275987 : True := trivial
theorem tw15430230018768706038 : True := trivial
theorem tw15158967661012954816 : True := trivial
theorem tw17868746736933588533 : True := trivial
theorem tw10457167030390177187 : True := trivial
theorem tw14072426811790965575 : True := trivial
theorem tw9574107595738707961 : True := trivial
theorem tw573592752262884963 : True := trivial
theorem tw10344593933833732509 : True := trivial
theorem tw17060946371516190515 : True := trivial
theorem tw18284581390221792011 : True := trivial
theorem tw1818148760594491678 : True := trivial
theorem tw15028305539817447725 : True := trivial
theorem tw4729265560868033654 : True := trivial
theorem tw5681801847946641603 : True := trivial
theorem tw8514257255486194812 : True := trivial
theorem tw3792894769848715242 : True := trivial
theorem tw17304215109039660263 : True := trivial
theorem tw3875072135805713864 : True := trivial
theorem tw16405091111410023266 : True := trivial
theorem tw11693502729916308229 : True := trivial
theorem tw2447447379413606920 : True := trivial
theorem tw15154951158394727597 : True := trivial
theorem tw16234324940509209814 : True := trivial
theorem tw14530709047736677972 : True := trivial
theorem tw17720596334707148390 : True := trivial
theorem tw12685015357370823777 : True := trivial
theorem tw9729801076028886526 : True := trivial
theorem tw11043112248351705569 : True := trivial
theorem tw17677980456248508947 : True := trivial
theorem tw5763494993767138939 : True := trivial
theorem tw4662683807375063301 : True := trivial
theorem tw9537304574177130958 : True := trivial
theorem tw1983472707414661555 : True := trivial
theorem tw6038434801163842888 : True := trivial
theorem tw18009641421003536776 : True := trivial
theorem tw6561736883365530568 : True := trivial
theorem tw1117623496413343237 : True := trivial
theorem tw14593644036114466398 : True := trivial
theorem tw11487921671302148816 : True := trivial
theorem tw15244689088337205675 : True := trivial
theorem tw17704943075118458293 : True := trivial
theorem tw1049963084331221865 : True := trivial
theorem tw17501191081606262065 : True := trivial
theorem tw17951598224208068222 : True := trivial
theorem tw456544912603147208 : True := trivial
theorem tw15488901286605783149 : True := trivial
theorem tw5729129702641076735 : True := trivial
theorem tw14510814444544947987 : True := trivial
theorem tw12986416286997448634 : True := trivial
theorem tw7693204365290240244 : True := trivial
theorem tw199796982968320999 : True := trivial
theorem tw7385126182941211738 : True := trivial
theorem tw4625681233380874955 : True := trivial
theorem tw3894701574070459125 : True := trivial
theorem tw6784363059156474618 : True := trivial
theorem tw6561069043482126061 : True := trivial
theorem tw530307745149837098 : True := trivial
theorem tw176141935489028675 : True := trivial
theorem tw2237732678625201472 : True := trivial
theorem tw17461597265834055781 : True := trivial
theorem tw5476507001261793516 : True := trivial
theorem tw4133944591319157417 : True := trivial
theorem tw5058444260686933781 : True := trivial
theorem tw14559812032001929312 : True := trivial
theorem tw3917817995111976110 : True := trivial
theorem tw8983918239974746662 : True := trivial
theorem tw3646331229929082915 : True := trivial
theorem tw12191159989989405385 : True := trivial
theorem tw3429078009857542693 : True := trivial
theorem tw2788445274347654558 : True := trivial
theorem tw11730831741449210060 : True := trivial
theorem tw4489014319307515495 : True := trivial
theorem tw1336821182080980027 : True := trivial
theorem tw4962887646549303042 : True := trivial
theorem tw118628157570549815 : True := trivial
theorem tw10440642608167800233 : True := trivial
theorem tw4382917975686726802 : True := trivial
theorem tw6546206155480547966 : True := trivial
theorem tw15067791211083248550 : True := trivial
theorem tw10189138961147707501 : True := trivial
theorem tw12502156480178120611 : True := trivial
theorem tw18062896873898383114 : True := trivial
theorem tw9236404026187527156 : True := trivial
theorem tw6922243774581247255 : True := trivial
theorem tw1872026220377967301 : True := trivial
theorem tw10950461124317222367 : True := trivial
theorem tw5379187204449057651 : True := trivial
theorem tw9307225928329228297 : True := trivial
theorem tw6985915031707058564 : True := trivial
theorem tw4021824447828260285 : True := trivial
theorem tw8950750538745729972 : True := trivial
theorem tw2282638753138275122 : True := trivial
theorem tw15038641159147239771 : True := trivial
theorem tw6799667484886218101 : True := trivial
theorem tw6189532078028553148 : True := trivial
theorem tw3212717660146310185 : True := trivial
theorem tw2894067363211770259 : True := trivial
theorem tw15124620208254582605 : True := trivial
theorem tw13896804718203623605 : True := trivial
theorem tw3004769734842194754 : True := trivial
theorem tw5864635495020680445 : True := trivial
theorem tw10809918980088048178 : True := trivial
theorem tw6146121415553599529 : True := trivial
theorem tw9764296191645280818 : True := trivial
theorem tw18342280691858268119 : True := trivial
theorem tw13134700538813959635 : True := trivial
theorem tw384253968458664035 : True := trivial
theorem tw3578275343780510989 : True := trivial
theorem tw2866869097024559810 : True := trivial
theorem tw9994605959484071497 : True := trivial
theorem tw14564715987876999987 : True := trivial
theorem tw10280181205439655110 : True := trivial
theorem tw10596820167038260087 : True := trivial
theorem tw7884877958325674740 : True := trivial
theorem tw3258725272482817768 : True := trivial
theorem tw17346737965833156523 : True := trivial
theorem tw14137378956919142624 : True := trivial
theorem tw5251320477767955851 : True := trivial
theorem tw2162239277916095577 : True := trivial
theorem tw4314432720340223552 : True := trivial
theorem tw13238562921027251605 : True := trivial
theorem tw4462210607375968139 : True := trivial
theorem tw10258760972669409738 : True := trivial
theorem tw13779391404089296414 : True := trivial
theorem tw3878952489644566512 : True := trivial
theorem tw14448222945411673580 : True := trivial
theorem tw16368984208511288867 : True := trivial
theorem tw16884430714568679097 : True := trivial
theorem tw7904160050555123610 : True := trivial
theorem tw15900399975610586340 : True := trivial
theorem tw7871395033423871029 : True := trivial
theorem tw13570512694324847340 : True := trivial
theorem tw1065799333693517182 : True := trivial
theorem tw17554400395472440408 : True := trivial
theorem tw13243140270497577070 : True := trivial
theorem tw1190830949687368394 : True := trivial
theorem tw5862337981013134092 : True := trivial
theorem tw8952254874269385324 : True := trivial
theorem tw15765130615217806819 : True := trivial
theorem tw16638598575702366630 : True := trivial
theorem tw2333093571959833564 : True := trivial
theorem tw15494573440411077146 : True := trivial
theorem tw15712229679446199547 : True := trivial
theorem tw16125070784234627584 : True := trivial
theorem tw18437048804298432355 : True := trivial
theorem tw17743954722775381774 : True := trivial
theorem tw3917480818498728377 : True := trivial
theorem tw15205403219482901300 : True := trivial
theorem tw2717901349769336490 : True := trivial
theorem tw815812051400544852 : True := trivial
theorem tw3605672854067500317 : True := trivial
theorem tw13037361596825305535 : True := trivial
theorem tw1677408773998914729 : True := trivial
theorem tw17232750669818622633 : True := trivial
theorem tw2961449102559172941 : True := trivial
theorem tw884778378363531904 : True := trivial
theorem tw7693591390463291092 : True := trivial
theorem tw6887975639992935809 : True := trivial
theorem tw15311072174300894060 : True := trivial
theorem tw16878858103111143984 : True := trivial
theorem tw10104982651492245013 : True := trivial
theorem tw9974252396708576300 : True := trivial
theorem tw14356891152467604719 : True := trivial
theorem tw14474532108475998952 : True := trivial
theorem tw5740852465098666218 : True := trivial
theorem tw13541433943864212511 : True := trivial
theorem tw6247722198552346751 : True := trivial
theorem tw17371906915664921387 : True := trivial
theorem tw16646321326751384237 : True := trivial
theorem tw1487998854377243022 : True := trivial
theorem tw708573918512437484 : True := trivial
theorem tw14076101402591400696 : True := trivial
theorem tw1435440573634513184 : True := trivial
theorem tw11101057006965343800 : True := trivial
theorem tw17042350773754308791 : True := trivial
theorem tw3046144092198500159 : True := trivial
theorem tw11008024783175935885 : True := trivial
theorem tw1013913147809551351 : True := trivial
theorem tw8552813311734297350 : True := trivial
theorem tw2461152635224099558 : True := trivial
theorem tw5871390904380247778 : True := trivial
theorem tw11415040992613360599 : True := trivial
theorem tw4642547779402744688 : True := trivial
theorem tw12092936271572535006 : True := trivial
theorem tw4893093300263324567 : True := trivial
theorem tw8340111940969252109 : True := trivial
end PySem.W.Fast
set_option maxRecDepth 100000 in
set_option maxHeartbeats 0 in
theorem PySem.Challenge.cw_floorcurves_k65_from_the_least_degree_holds : PySem.Challenge.rw_floorcurves_k65_from_the_least_degree.Holds := by
 w_on; o_law; k_head; (case hw => w_witness2)
 k_fill
 refine Mine.walk (l := PySem.Challenge.rw_floorcurves_k65_from_the_least_degree) rfl rfl (fun w h Y => PySem.W.kIn_of Y) ?F
 case F =>
  intro w mg fa h KX G hmg
  refine' Mine.q1_ KX G hmg ?a0 ?l0 ?c0 ?k0 ?a1 ?l1 ?c1 ?k1 ?a2 ?l2 ?c2 ?k2 ?a3 ?l3 ?c3 ?k3 ?a4 ?l4 ?c4 ?k4 ?a5 ?l5 ?c5 ?k5 ?a6 ?l6 ?c6 ?k6 ?a7 ?l7 ?c7 ?k7 ?a8 ?l8 ?c8 ?k8 ?a9 ?l9 ?c9 ?k9 ?a10 ?l10 ?c10 ?k10 ?a11 ?l11 ?c11 ?k11 ?a12 ?l12 ?c12 ?k12 ?a13 ?l13 ?c13 ?k13 ?a14 ?l14 ?c14 ?k14 ?a15 ?l15 ?c15 ?k15 ?a16 ?l16 ?c16 ?k16 ?a17 ?l17 ?c17 ?k17 ?a18 ?l18 ?c18 ?k18 ?a19 ?l19 ?c19 ?k19 ?a20 ?l20 ?c20 ?k20 ?a21 ?l21 ?c21 ?k21 ?a22 ?l22 ?c22 ?k22 ?a23 ?l23 ?c23 ?k23 ?a24 ?l24 ?c24 ?k24 ?a25 ?l25 ?c25 ?k25 ?a26 ?l26 ?c26 ?k26 ?a27 ?l27 ?c27 ?k27 ?a28 ?l28 ?c28 ?k28 ?a29 ?l29 ?c29 ?k29 ?a30 ?l30 ?c30 ?k30 ?a31 ?l31 ?c31 ?k31 ?a32 ?l32 ?c32 ?k32 ?a33 ?l33 ?c33 ?k33 ?a34 ?l34 ?c34 ?k34 ?a35 ?l35 ?c35 ?k35 ?a36 ?l36 ?c36 ?k36 ?a37 ?l37 ?c37 ?k37 ?a38 ?l38 ?c38 ?k38 ?a39 ?l39 ?c39 ?k39 ?a40 ?l40 ?c40 ?k40 ?a41 ?l41 ?c41 ?k41 ?z0 ?z1 ?z2 ?z3 ?z4 ?z5 ?z6 ?z7 ?z8 ?z9 ?z10 ?z11 ?z12 ?z13 ?z14 ?z15 ?z16 ?z17 ?ca_NoBound ?ca_NoNumber ?ca_CurveError ?ca_NoDrawing ?ca_NoEnds ?ca_NoText ?cx_NoBound ?xc_NoBound_cl ?xc_NoBound_ga ?xc_NoBound_gt ?xc_NoBound_ca ?xc_NoBound_gn ?xc_NoBound_tk ?xc_NoBound_ob ?xc_NoBound_be ?cx_NoNumber ?xc_NoNumber_cl ?xc_NoNumber_ga ?xc_NoNumber_gt ?xc_NoNumber_ca ?xc_NoNumber_gn ?xc_NoNumber_tk ?xc_NoNumber_ob ?xc_NoNumber_be ?ce_NoBound_CurveError ?ce_NoNumber_CurveError ?ck_NoBound_NoBound ?ck_NoBound_ValueError ?ck_NoNumber_NoBound ?ck_NoNumber_ValueError ?cs_NoBound_0 ?cs_NoNumber_1
  (case a0 => k_is)
  (case l0 => k_is)
  (case c0 => k_is)
  (case k0 => k_is)
  (case a1 => k_is)
  (case l1 => k_is)
  (case c1 => k_is)
  (case k1 => k_is)
  (case a2 => k_is)
  (case l2 => k_is)
  (case c2 => k_is)
  (case k2 => k_is)
  (case a3 => k_is)
  (case l3 => k_is)
  (case c3 => k_is)
  (case k3 => k_is)
  (case a4 => k_is)
  (case l4 => k_is)
  (case c4 => k_is)
  (case k4 => k_is)
  (case a5 => k_is)
  (case l5 => k_is)
  (case c5 => k_is)
  (case k5 => k_is)
  (case a6 => k_is)
  (case l6 => k_is)
  (case c6 => k_is)
  (case k6 => k_is)
  (case a7 => k_is)
  (case l7 => k_is)
  (case c7 => k_is)
  (case k7 => k_is)
  (case a8 => k_is)
  (case l8 => k_is)
  (case c8 => k_is)
  (case k8 => k_is)
  (case a9 => k_is)
  (case l9 => k_is)
  (case c9 => k_is)
  (case k9 => k_is)
  (case a10 => k_is)
  (case l10 => k_is)
  (case c10 => k_is)
  (case k10 => k_is)
  (case a11 => k_is)
  (case l11 => k_is)
  (case c11 => k_is)
  (case k11 => k_is)
  (case a12 => k_is)
  (case l12 => k_is)
  (case c12 => k_is)
  (case k12 => k_is)
  (case a13 => k_is)
  (case l13 => k_is)
  (case c13 => k_is)
  (case k13 => k_is)
  (case a14 => k_is)
  (case l14 => k_is)
  (case c14 => k_is)
  (case k14 => k_is)
  (case a15 => k_is)
  (case l15 => k_is)
  (case c15 => k_is)
  (case k15 => k_is)
  (case a16 => k_is)
  (case l16 => k_is)
  (case c16 => k_is)
  (case k16 => k_is)
  (case a17 => k_is)
  (case l17 => k_is)
  (case c17 => k_is)
  (case k17 => k_is)
  (case a18 => k_is)
  (case l18 => k_is)
  (case c18 => k_is)
  (case k18 => k_is)
  (case a19 => k_is)
  (case l19 => k_is)
  (case c19 => k_is)
  (case k19 => k_is)
  (case a20 => k_is)
  (case l20 => k_is)
  (case c20 => k_is)
  (case k20 => k_is)
  (case a21 => k_is)
  (case l21 => k_is)
  (case c21 => k_is)
  (case k21 => k_is)
  (case a22 => k_is)
  (case l22 => k_is)
  (case c22 => k_is)
  (case k22 => k_is)
  (case a23 => k_is)
  (case l23 => k_is)
  (case c23 => k_is)
  (case k23 => k_is)
  (case a24 => k_is)
  (case l24 => k_is)
  (case c24 => k_is)
  (case k24 => k_is)
  (case a25 => k_is)
  (case l25 => k_is)
  (case c25 => k_is)
  (case k25 => k_is)
  (case a26 => k_is)
  (case l26 => k_is)
  (case c26 => k_is)
  (case k26 => k_is)
  (case a27 => k_is)
  (case l27 => k_is)
  (case c27 => k_is)
  (case k27 => k_is)
  (case a28 => k_is)
  (case l28 => k_is)
  (case c28 => k_is)
  (case k28 => k_is)
  (case a29 => k_is)
  (case l29 => k_is)
  (case c29 => k_is)
  (case k29 => k_is)
  (case a30 => k_is)
  (case l30 => k_is)
  (case c30 => k_is)
  (case k30 => k_is)
  (case a31 => k_is)
  (case l31 => k_is)
  (case c31 => k_is)
  (case k31 => k_is)
  (case a32 => k_is)
  (case l32 => k_is)
  (case c32 => k_is)
  (case k32 => k_is)
  (case a33 => k_is)
  (case l33 => k_is)
  (case c33 => k_is)
  (case k33 => k_is)
  (case a34 => k_is)
  (case l34 => k_is)
  (case c34 => k_is)
  (case k34 => k_is)
  (case a35 => k_is)
  (case l35 => k_is)
  (case c35 => k_is)
  (case k35 => k_is)
  (case a36 => k_is)
  (case l36 => k_is)
  (case c36 => k_is)
  (case k36 => k_is)
  (case a37 => k_is)
  (case l37 => k_is)
  (case c37 => k_is)
  (case k37 => k_is)
  (case a38 => k_is)
  (case l38 => k_is)
  (case c38 => k_is)
  (case k38 => k_is)
  (case a39 => k_is)
  (case l39 => k_is)
  (case c39 => k_is)
  (case k39 => k_is)
  (case a40 => k_is)
  (case l40 => k_is)
  (case c40 => k_is)
  (case k40 => k_is)
  (case a41 => k_is)
  (case l41 => k_is)
  (case c41 => k_is)
  (case k41 => k_is)
  (case z0 => k_is)
  (case z1 => k_is)
  (case z2 => k_is)
  (case z3 => k_is)
  (case z4 => k_is)
  (case z5 => k_is)
  (case z6 => k_is)
  (case z7 => k_is)
  (case z8 => k_is)
  (case z9 => k_is)
  (case z10 => k_is)
  (case z11 => k_is)
  (case z12 => k_is)
  (case z13 => k_is)
  (case z14 => k_is)
  (case z15 => k_is)
  (case z16 => k_is)
  (case z17 => k_is)
  (case ca_NoBound => first | k_is | kit_is | kts_exm | kernel_rfl)
  (case ca_NoNumber => first | k_is | kit_is | kts_exm | kernel_rfl)
  (case ca_CurveError => first | k_is | kit_is | kts_exm | kernel_rfl)
  (case ca_NoDrawing => first | k_is | kit_is | kts_exm | kernel_rfl)
  (case ca_NoEnds => first | k_is | kit_is | kts_exm | kernel_rfl)
  (case ca_NoText => first | k_is | kit_is | kts_exm | kernel_rfl)
  (case cx_NoBound => first | k_is | kit_is | kts_exm | kernel_rfl)
  (case xc_NoBound_cl => first | k_is | kit_is | kts_exm | kernel_rfl)
  (case xc_NoBound_ga => first | k_is | kit_is | kts_exm | kernel_rfl)
  (case xc_NoBound_gt => first | k_is | kit_is | kts_exm | kernel_rfl)
  (case xc_NoBound_ca => first | k_is | kit_is | kts_exm | kernel_rfl)
  (case xc_NoBound_gn => first | k_is | kit_is | kts_exm | kernel_rfl)
  (case xc_NoBound_tk => first | k_is | kit_is | kts_exm | kernel_rfl)
  (case xc_NoBound_ob => first | k_is | kit_is | kts_exm | kernel_rfl)
  (case xc_NoBound_be => first | k_is | kit_is | kts_exm | kernel_rfl)
  (case cx_NoNumber => first | k_is | kit_is | kts_exm | kernel_rfl)
  (case xc_NoNumber_cl => first | k_is | kit_is | kts_exm | kernel_rfl)
  (case xc_NoNumber_ga => first | k_is | kit_is | kts_exm | kernel_rfl)
  (case xc_NoNumber_gt => first | k_is | kit_is | kts_exm | kernel_rfl)
  (case xc_NoNumber_ca => first | k_is | kit_is | kts_exm | kernel_rfl)
  (case xc_NoNumber_gn => first | k_is | kit_is | kts_exm | kernel_rfl)
  (case xc_NoNumber_tk => first | k_is | kit_is | kts_exm | kernel_rfl)
  (case xc_NoNumber_ob => first | k_is | kit_is | kts_exm | kernel_rfl)
  (case xc_NoNumber_be => first | k_is | kit_is | kts_exm | kernel_rfl)
  (case ce_NoBound_CurveError => first | k_is | kit_is | kts_exm | kernel_rfl)
  (case ce_NoNumber_CurveError => first | k_is | kit_is | kts_exm | kernel_rfl)
  (case ck_NoBound_NoBound => first | k_is | kit_is | kts_exm | kernel_rfl)
  (case ck_NoBound_ValueError => first | k_is | kit_is | kts_exm | kernel_rfl)
  (case ck_NoNumber_NoBound => first | k_is | kit_is | kts_exm | kernel_rfl)
  (case ck_NoNumber_ValueError => first | k_is | kit_is | kts_exm | kernel_rfl)
  (case cs_NoBound_0 => first | k_is | kit_is | kts_exm | kernel_rfl)
  (case cs_NoNumber_1 => first | k_is | kit_is | kts_exm | kernel_rfl)
#print axioms PySem.Challenge.cw_floorcurves_k65_from_the_least_degree_holds
